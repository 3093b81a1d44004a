
/- The walk of WidthShort. Condition: as many advances as the slice says. -/
import Derived.Test.YthacabmnnpibkaaWLastLaw
import Derived.Test.YthacabmnnpibkaaLeaf
namespace Go.Proofs.Ythacabmnnpibkaa
open Go.RowKit Go.Lib

def ShortRel (w : World) (vs : List Nat) (h i : Value) (wr : World) : Prop :=
  ∃ (k L : Nat) (a' : Option Addr) (c' : Nat), k ≤ vs.length ∧ L = 4 * k ∧ i = .int .i64 (k : Nat) ∧ h = .slice a' L c' ∧ wr.ownsRow w.heap.size 5 1 (.slice a' L c') L (bytesV (rowsF vs (fun _ => 3) k)) ∧ L ≤ c' ∧ c' ≤ maxLen ∧ (a' = none → c' = 0) ∧ Below w.heap.size w wr

theorem owns_take {w : World} {base e n m c : Nat} {a : Option Addr} {xs : List Value} (h : w.ownsRow base e 1 (.slice a n c) n xs) (hm : m ≤ n) : w.ownsRow base e 1 (.slice a m c) m (xs.take m) := by
  have hl : xs.length = n := by simpa using h.1
  refine ⟨by simp; omega, ?_⟩
  rcases h.2 with ⟨hv, h0⟩ | ⟨g, cap, cur, hv, hg, hh, h1, h2, h3, h4⟩
  · injection hv with e1 e2 e3
    subst e1 e3
    obtain rfl : m = 0 := by omega
    exact .inl ⟨rfl, rfl⟩
  · injection hv with e1 _ e3
    subst e1 e3
    refine .inr ⟨g, c, cur, rfl, hg, hh, by omega, h2, h3, ?_⟩
    rw [← h4, List.take_take]
    congr 1
    omega
theorem has_alloc_d (w : World) (cs : Array Value) (t : TypeId) : Has (w.alloc (.cells cs t)).drew (some ⟨w.heap.size, 0, none⟩) cs.toList := (has_alloc w cs t).below (bdrew1 (brefl _))
structure Parts4 (w V : World) (g m : Nat) (p4 : PartV) (v : Value) : Prop where
  is : ∃ (a9 : Option Addr) (c9 : Nat) (p1 p2 p3 : PartV), v = .slice a9 4 c9 ∧ 4 ≤ c9 ∧ c9 ≤ maxLen ∧ Has V a9 (encAll [p1, p2, p3, p4]) ∧ Bytes V w.heap.size p1 ∧ Bytes V w.heap.size p2 ∧ Bytes V w.heap.size p3 ∧ Bytes V w.heap.size p4 ∧
    p1.tag = sMaxp ∧ p2.tag = sHead ∧ p3.tag = sHhea ∧ p1.bs = maxpB g ∧ p2.bs = headB 1000 ∧ p3.bs = hheaB m
  b : Below w.heap.size w V
theorem parts4_mk {w v7 v8 v9 : World} {g m : Nat} {p1 p2 p3 p4 : PartV} {a9 : Option Addr} {c9 : Nat} {v : Value} (hv : v = .slice a9 4 c9) (h1 : 4 ≤ c9) (h2 : c9 ≤ maxLen) (hE : Has v9 a9 (encAll [p1, p2, p3] ++ p4.enc)) (hw : Below w.heap.size w v7) (h78 : Below v7.heap.size v7 v8) (h79 : Below v7.heap.size v7 v9) (hK : KeptE 27 v8 v9)
    (o1 : Bytes v8 v7.heap.size p1) (o2 : Bytes v8 v7.heap.size p2) (o3 : Bytes v8 v7.heap.size p3) (o4 : Bytes v7 w.heap.size p4) (t1 : p1.tag = sMaxp) (t2 : p2.tag = sHead) (t3 : p3.tag = sHhea) (b1 : p1.bs = maxpB g) (b2 : p2.bs = headB 1000) (b3 : p3.bs = hheaB m) : Parts4 w v9 g m p4 v :=
  ⟨⟨a9, c9, p1, p2, p3, hv, h1, h2, by simpa [encAll] using hE, (o1.keptE hK (by decide)).mono hw.size, (o2.keptE hK (by decide)).mono hw.size, (o3.keptE hK (by decide)).mono hw.size, (o4.below h78 (Nat.le_refl _)).keptE hK (by decide), t1, t2, t3, b1, b2, b3⟩, hw.trans (h79.mono hw.size)⟩

set_option maxRecDepth 100000 in
set_option maxHeartbeats 3200000 in
theorem widthShort_walk (a : Option Addr) (n c : Nat) (vs : List Nat) (more cut : Nat) (w : World) (h : Has w a (u16V vs)) (hl : vs.length = n) (hn : n ≤ c) (hc : c ≤ maxLen) (hv : ∀ s ∈ vs, s ≤ 65535) (hm : more ≤ 255) (hct : cut ≤ 255) :
    Calls Try.prog 7 #[.slice a n c, .int .u8 (more : Nat), .int .u8 (cut : Nat)] w fun r w' => r = .returned (.bool true) ∧ Below w.heap.size w w' := by
  have hAC := allocC
  have HH := Lib.hid h
  have HL := Lib.hid hl
  have HV := Lib.hid hv
  have hcm := hc
  unfold maxLen at hcm
  clear h hl hv
  by_cases h0 : n = 0
  · subst h0
    go_enter Try.func7, Try.ntmps7
    go_wp2_with (first | (go_at_call 13; refine (speaks_width _).mono ?_; rintro e w1 ⟨rfl, hb1⟩; have h1c := bc hb1; have h1f := bf hb1; have h1z := hb1.size; try simp only [World.size_alloc, World.size_drew] at h1z))
    go_ret
    exact ⟨rfl, (by repeat (first | exact brefl _ | assumption | refine balloc ?_ _ | refine bdrew ?_ _ | refine bdrew1 ?_ | refine bthen ?_ (by assumption) | refine Below.trans ?_ (by assumption) | (refine bset ?_ (by first | (simp; done) | (simp; omega)) _)))⟩
  by_cases h2 : 200 < n
  · have hz : ((n : Int) == 0) = false := by simp; omega
    go_enter Try.func7, Try.ntmps7
    go_wp2_with (first | (go_at_call 13; refine (speaks_width _).mono ?_; rintro e w1 ⟨rfl, hb1⟩; have h1c := bc hb1; have h1f := bf hb1; have h1z := hb1.size; try simp only [World.size_alloc, World.size_drew] at h1z))
    go_ret
    exact ⟨rfl, (by repeat (first | exact brefl _ | assumption | refine balloc ?_ _ | refine bdrew ?_ _ | refine bdrew1 ?_ | refine bthen ?_ (by assumption) | refine Below.trans ?_ (by assumption) | (refine bset ?_ (by first | (simp; done) | (simp; omega)) _)))⟩
  have hz : ((n : Int) == 0) = false := by simp; omega
  have hz2 : decide (200 < (n : Int)) = false := by simp; omega
  have hz3 : decide (200 < n) = false := by simp; omega
  obtain ⟨q, hq⟩ : ∃ q : Nat, q = more % 50 := ⟨_, rfl⟩
  have hqm : (more : Int) % 50 = (q : Int) := by omega
  have hq49 : q ≤ 49 := by omega
  have HQM := Lib.hid hqm
  clear hq hqm
  go_enter Try.func7, Try.ntmps7
  go_wp2_with (first | (go_at_call 13; refine (speaks_width _).mono ?_; rintro e w1 ⟨rfl, hb1⟩; have h1c := bc hb1; have h1f := bf hb1; have h1z := hb1.size; try simp only [World.size_alloc, World.size_drew] at h1z))
  have HB1 := Lib.hid hb1
  clear h1c h1f hb1
  rw [HQM.out]
  go_loopw [8, 30] (ShortRel w vs) (fun _ i _ => n - (intOf i).toNat)
  case atStart => exact ⟨0, 0, none, 0, Nat.zero_le _, rfl, rfl, rfl, World.ownsRow_nil _ _ _ _, Nat.le_refl _, Nat.zero_le _, fun _ => rfl, HB1.out⟩
  case round =>
    obtain ⟨k, L, a', c', hk, hLk, rfl, rfl, hown, k1, k2, k3, hbr⟩ := hrel
    rw [HL.out] at hk
    have HO := Lib.hid hown
    have HN := Lib.hid k3
    have HBR := Lib.hid hbr
    have HLK := Lib.hid hLk
    have hzr := hbr.size
    have hL5 : L ≤ 4000 := by omega
    clear hown k3 hbr hLk
    by_cases hlt : k < n
    · have HLT := Lib.hid hlt
      obtain ⟨b, o, rfl, hlb, hg⟩ := HH.out.get (by rw [u16V_length, HL.out]; omega)
      have hcell := (HBR.out.cell (p := ⟨b, o + k, none⟩) hlb).trans (hg k _ (u16V_get vs k (by rw [HL.out]; exact hlt)))
      have hsk : vs.getD k 0 ≤ 65535 := HV.out _ (by rw [List.getD_eq_getElem?_getD, List.getElem?_eq_getElem (by rw [HL.out]; exact hlt)]; exact List.getElem_mem _)
      have HSU := Lib.hid (rowsF_succ vs (fun _ => 3) k)
      generalize vs.getD k 0 = s at *
      have hlr : b < wr.heap.size := Nat.lt_of_lt_of_le hlb HBR.out.size
      generalize rowsF vs (fun _ => 3) k = R at *
      clear hg
      go_wp2_with (first
        | (go_at_call 18; (with_reducible refine (put_z w.heap.size a' L c' s 2 _ _ ?_ ?_ R _ ?_ ?_ ?_ ?_ ?_).mono ?_); (· first | rfl | omega); (· rfl); (· exact HO.out); (· exact hzr); (· omega); (· omega); (· decide); rintro e_ v1 ⟨b1, d1, rfl, hown1, q1, r1, s1, hc1, hd1⟩; have O1 := Lib.hid hown1; have S1 := Lib.hid s1; have C1 := Lib.hid hc1; have z1 := hd1.1; clear hown1 s1 hc1 hd1)
        | (go_at_call 18; (with_reducible refine (put_z w.heap.size b1 (L + 2) d1 3 2 _ _ ?_ ?_ (R ++ beN 2 s) _ ?_ ?_ ?_ ?_ ?_).mono ?_); (· first | rfl | omega); (· rfl); (· exact O1.out); (· omega); (· omega); (· omega); (· decide); rintro e_ v2 ⟨b2, d2, rfl, hown2, q2, r2, s2, hc2, hd2⟩; have O2 := Lib.hid hown2; have S2 := Lib.hid s2; have C2 := Lib.hid hc2; have z2 := hd2.1; clear hown2 s2 hc2 hd2))
      go_roundw
      case rel => exact ⟨k + 1, L + 2 + 2, b2, d2, by rw [HL.out]; exact HLT.out, by have := HLK.out; omega, by go_num, rfl, by rw [HSU.out, ← beN2, ← beN2]; exact O2.out, q2, r2, S2.out, HBR.out.trans (C1.out.trans C2.out)⟩
      case measure => simp [intOf]; have := HLT.out; omega
    · obtain rfl : k = n := by omega
      rename World => W
      have HTL := Lib.hid (show (rowsF vs (fun _ => 3) k ++ List.replicate (2 * q + 2) 0).length = L + (2 * q + 2) by rw [List.length_append, rowsF_length, List.length_replicate, HLK.out])
      generalize hRR : rowsF vs (fun _ => 3) k = R at *
      have HRR := Lib.hid hRR
      clear hRR
      obtain ⟨rm, hrm⟩ : ∃ rm, rm = cut % (2 * q + 7) := ⟨_, rfl⟩
      have hrm6 : rm ≤ 2 * q + 6 := by have := Nat.mod_lt cut (show 0 < 2 * q + 7 by omega); omega
      have hr1 : (cut : Int) % (2 * (q : Int) + 7) = (rm : Int) := by rw [hrm]; simp
      have hr2 : (cut : Int).tmod (2 * (q : Int) + 7) = (rm : Int) := by rw [← hr1]; exact Int.tmod_eq_emod_of_nonneg (by omega)
      have hx2 : Value.int .i64 (2 * (q : Int) + 2) = .int .i64 ((2 * q + 2 : Nat) : Int) := by congr 1
      have HX2 := Lib.hid hx2
      clear hrm hx2
      go_wp2_with (first
        | (at_builtin; refine wpAppZ rfl _ _ 22 3 9 rfl w.heap.size 5 Try.underlying22 Try.underlying3 Try.underlying9 u8_info _ L R rfl HO.out (2 * q + 2) HX2.out (by omega) (by omega) ?_; intro b7 d7 v7 hown7 q7 r7 s7 hc7; have O7 := Lib.hid hown7; have S7 := Lib.hid s7; have C7 := Lib.hid hc7; have z7 := hc7.size; clear hown7 s7 hc7))
      obtain ⟨sz, hsz⟩ : ∃ sz, sz = 4 * k + 2 * q + 2 - rm := ⟨_, rfl⟩
      have hszI : 4 * (k : Int) + 2 * (q : Int) + 2 - (rm : Int) = (sz : Int) := by omega
      rw [hszI]
      have hLk := HLK.out
      have hsz1 : sz ≤ L + (2 * q + 2) := by omega
      have hsz2 : 4 * k ≤ sz + 4 := by omega
      have HB7 := Lib.hid (HBR.out.trans C7.out)
      have HP4 := Lib.hid (show Bytes v7 w.heap.size ⟨tHmtx, b7, sz, d7, (R ++ List.replicate (2 * q + 2) 0).take sz⟩ from ⟨by have := owns_take O7.out hsz1; rw [bytesV_take] at this; exact this, by show _ = sz; rw [List.length_take, HTL.out]; omega, by show sz ≤ d7; omega, r7, S7.out⟩)
      have hd7 : d7 ≤ 9223372036854775807 := r7
      have HSZ := Lib.hid (show sz = 4 * k + 2 * q + 2 - rm from hsz)
      clear hszI hr1 hr2 hLk O7 hsz
      apply cutP (R := ∀ (x_ : Nat → Value) (W_ : World), (fun x V => Parts4 w V (k + q) k ⟨tHmtx, b7, sz, d7, (R ++ List.replicate (2 * q + 2) 0).take sz⟩ (x 12)) x_ W_ → _)
      · intro hfin_
        refine wp_region_tree (.step 0 (.step 1 (.step 2 (.step 3 (.step 4 (.step 5 (.step 7 (.step 8 (.step 9 (.step 10 (.two 6 (.step 11 (.step 12 (.step 13 .nil))) 11 (.step 6 (.step 12 (.step 13 .nil)))))))))))))) (by kernel_rfl) (by kernel_rfl) (by kernel_rfl) (by kernel_rfl) (by intro _ _ d_ _ _ h_; cases d_ <;> first | exact h_ | (dsimp +zetaDelta only at h_ ⊢; exact h_)) (fun w' => ∃ p : Wld v7 [], w' = p.val) (wld_start _ _) ?_
        have hG_ := @wldC v7
        (refine tree_quiet (by simp only [List.getElem?_toArray, List.getElem?_cons_succ, List.getElem?_cons_zero]; rfl) (by rfl) (by rfl) (fun K_ hK_ => ?_); go_big_quiet_op; refine hK_ _ ?_; clear hK_ K_)
        (refine tree_quiet (by simp only [List.getElem?_toArray, List.getElem?_cons_succ, List.getElem?_cons_zero]; rfl) (by rfl) (by rfl) (fun K_ hK_ => ?_); go_big_quiet_op; refine hK_ _ ?_; clear hK_ K_)
        (refine tree_quiet (by simp only [List.getElem?_toArray, List.getElem?_cons_succ, List.getElem?_cons_zero]; rfl) (by rfl) (by rfl) (fun K_ hK_ => ?_); go_big_quiet_op; refine hK_ _ ?_; clear hK_ K_)
        (refine tree_quiet (by simp only [List.getElem?_toArray, List.getElem?_cons_succ, List.getElem?_cons_zero]; rfl) (by rfl) (by rfl) (fun K_ hK_ => ?_); go_big_quiet_op; refine hK_ _ ?_; clear hK_ K_)
        (refine tree_quiet (by simp only [List.getElem?_toArray, List.getElem?_cons_succ, List.getElem?_cons_zero]; rfl) (by rfl) (by rfl) (fun K_ hK_ => ?_); go_big_quiet_op; refine hK_ _ ?_; clear hK_ K_)
        (refine tree_quiet (by simp only [List.getElem?_toArray, List.getElem?_cons_succ, List.getElem?_cons_zero]; rfl) (by rfl) (by rfl) (fun K_ hK_ => ?_); go_big_quiet_op; refine hK_ _ ?_; clear hK_ K_)
        (refine tree_quiet (by simp only [List.getElem?_toArray, List.getElem?_cons_succ, List.getElem?_cons_zero]; rfl) (by rfl) (by rfl) (fun K_ hK_ => ?_); go_big_quiet_op; refine hK_ _ ?_; clear hK_ K_)
        (refine tree_quiet (by simp only [List.getElem?_toArray, List.getElem?_cons_succ, List.getElem?_cons_zero]; rfl) (by rfl) (by rfl) (fun K_ hK_ => ?_); go_big_quiet_op; refine hK_ _ ?_; clear hK_ K_)
        (refine tree_quiet (by simp only [List.getElem?_toArray, List.getElem?_cons_succ, List.getElem?_cons_zero]; rfl) (by rfl) (by rfl) (fun K_ hK_ => ?_); go_big_quiet_op; refine hK_ _ ?_; clear hK_ K_)
        (refine tree_quiet (by simp only [List.getElem?_toArray, List.getElem?_cons_succ, List.getElem?_cons_zero]; rfl) (by rfl) (by rfl) (fun K_ hK_ => ?_); go_big_quiet_op; refine hK_ _ ?_; clear hK_ K_)
        refine tree_two (by simp only [List.getElem?_toArray, List.getElem?_cons_succ, List.getElem?_cons_zero]; rfl) (by simp only [List.getElem?_toArray, List.getElem?_cons_succ, List.getElem?_cons_zero]; rfl) (by rfl) (by rfl) (fun K_ hK_ => ?_) (fun K_ hK_ => ?_)
        · have HK_ := Lib.hid hK_; clear hK_; (first | (first
        | (refine wpAppO _ _ 24 rfl v7.heap.size 27 (.agg #[.string .empty, .slice none 0 0]) 2 40 Try.underlying24 rpart_info rfl (by decide) _ 3 (encAll [p1, p2, p3]) rfl (owns_below HO8.out (balloc (brefl v8) _) (Nat.le_refl _)) ⟨v8.heap.size, 0, none⟩ 1 1 (PartV.enc ⟨tHmtx, b7, sz, d7, (R ++ List.replicate (2 * q + 2) 0).take sz⟩) rfl rfl (has_alloc _ _ _) (fun u hu => by simp [PartV.enc] at hu; rcases hu with rfl | rfl <;> rfl) (by decide) (by decide) (by simp; omega) ?_; intro a9 c9 v9 hown9 q9 r9 s9 hc9 hg9; have HENC := Lib.hid (has_of_owns hown9); have HKK := Lib.hid ((KeptE.below (balloc (brefl v8) (Obj.cells (PartV.enc ⟨tHmtx, b7, sz, d7, (R ++ List.replicate (2 * q + 2) 0).take sz⟩).toArray 27))).trans (KeptE.grown (owns_below HO8.out (balloc (brefl v8) _) (Nat.le_refl _)) hg9)); have hbb9 : Below v7.heap.size v7 v9 := H78.out.trans (((balloc (brefl v8) _).mono z8).trans hc9); have HBB := Lib.hid hbb9; have hs9 : Same v7 [] v9 := same_below hbb9; clear hown9 s9 hc9 hg9 hbb9; dsimp only [Act.put]; simp only [List.setIfInBounds_toArray, List.set_cons_succ, List.set_cons_zero])
        | (refine wpAppO _ _ 24 rfl v7.heap.size 27 (.agg #[.string .empty, .slice none 0 0]) 2 40 Try.underlying24 rpart_info rfl (by decide) _ 3 (encAll [p1, p2, p3]) rfl HO8.out ⟨v7.heap.size, 0, none⟩ 1 1 (PartV.enc ⟨tHmtx, b7, sz, d7, (R ++ List.replicate (2 * q + 2) 0).take sz⟩) rfl rfl ((has_alloc_d v7 _ _).below hb8) (fun u hu => by simp [PartV.enc] at hu; rcases hu with rfl | rfl <;> rfl) (by decide) (by decide) (by omega) ?_; intro a9 c9 v9 hown9 q9 r9 s9 hc9 hg9; have HENC := Lib.hid (has_of_owns hown9); have HKK := Lib.hid (KeptE.grown HO8.out hg9); have hbb9 : Below v7.heap.size v7 v9 := H78.out.trans hc9; have HBB := Lib.hid hbb9; have hs9 : Same v7 [] v9 := same_below hbb9; clear hown9 s9 hc9 hg9 hbb9; dsimp only [Act.put]; simp only [List.setIfInBounds_toArray, List.set_cons_succ, List.set_cons_zero])) | (go_wp2_with ((go_at_call 10; refine (plain_z (k + q) 1000 k _ _ _ (by omega) rfl rfl _ (by omega) (by omega) (by omega)).mono ?_; rintro r v8 ⟨p1, p2, p3, gb, rfl, ho, o1, o2, o3, t1, t2, t3, b1, b2, b3, hb8⟩; have h78 : Below v7.heap.size v7 v8 := (by repeat (first | exact brefl _ | assumption | refine balloc ?_ _ | refine bdrew ?_ _ | refine bdrew1 ?_ | refine bthen ?_ (by assumption) | refine Below.trans ?_ (by assumption) | (refine bset ?_ (by first | (simp; done) | (simp; omega)) _))); have hzz : v7.heap.size ≤ _ := (show Below v7.heap.size v7 _ from (by repeat (first | exact brefl _ | assumption | refine balloc ?_ _ | refine bdrew ?_ _ | refine bdrew1 ?_ | refine bthen ?_ (by assumption) | refine Below.trans ?_ (by assumption) | (refine bset ?_ (by first | (simp; done) | (simp; omega)) _)))).size; have HO8 := Lib.hid (owns_mono ho (show v7.heap.size ≤ _ by first | exact Nat.le_refl _ | (simp only [World.size_drew, World.size_alloc]; omega))); have P1 := Lib.hid (o1.mono (show v7.heap.size ≤ _ by first | exact Nat.le_refl _ | (simp only [World.size_drew, World.size_alloc]; omega))); have P2 := Lib.hid (o2.mono (show v7.heap.size ≤ _ by first | exact Nat.le_refl _ | (simp only [World.size_drew, World.size_alloc]; omega))); have P3 := Lib.hid (o3.mono (show v7.heap.size ≤ _ by first | exact Nat.le_refl _ | (simp only [World.size_drew, World.size_alloc]; omega))); have T1 := Lib.hid t1; have T2 := Lib.hid t2; have T3 := Lib.hid t3; have B1 := Lib.hid b1; have B2 := Lib.hid b2; have B3 := Lib.hid b3; have z8 := h78.size; have H78 := Lib.hid h78; clear ho o1 o2 o3 t1 t2 t3 b1 b2 b3 h78)))); refine HK_.out _ _ (wld_of (by repeat (first | exact same_below (brefl _) | exact same_realloc (by simp) | exact same_below (bdrew1 (brefl _)) | assumption | refine same_drew ?_ | refine same_then ?_ (by assumption) | refine same_alloc ?_ _ | (refine same_set ?_ (by first | (left; simp; done) | (right; simp; done) | (right; simp; omega)) _)))) ?_; clear HK_
          (refine tree_run (by simp only [List.getElem?_toArray, List.getElem?_cons_succ, List.getElem?_cons_zero]; rfl) (by rfl) (by rfl) (fun K_ hK_ => ?_); have HK_ := Lib.hid hK_; clear hK_; (first | (first
        | (refine wpAppO _ _ 24 rfl v7.heap.size 27 (.agg #[.string .empty, .slice none 0 0]) 2 40 Try.underlying24 rpart_info rfl (by decide) _ 3 (encAll [p1, p2, p3]) rfl (owns_below HO8.out (balloc (brefl v8) _) (Nat.le_refl _)) ⟨v8.heap.size, 0, none⟩ 1 1 (PartV.enc ⟨tHmtx, b7, sz, d7, (R ++ List.replicate (2 * q + 2) 0).take sz⟩) rfl rfl (has_alloc _ _ _) (fun u hu => by simp [PartV.enc] at hu; rcases hu with rfl | rfl <;> rfl) (by decide) (by decide) (by simp; omega) ?_; intro a9 c9 v9 hown9 q9 r9 s9 hc9 hg9; have HENC := Lib.hid (has_of_owns hown9); have HKK := Lib.hid ((KeptE.below (balloc (brefl v8) (Obj.cells (PartV.enc ⟨tHmtx, b7, sz, d7, (R ++ List.replicate (2 * q + 2) 0).take sz⟩).toArray 27))).trans (KeptE.grown (owns_below HO8.out (balloc (brefl v8) _) (Nat.le_refl _)) hg9)); have hbb9 : Below v7.heap.size v7 v9 := H78.out.trans (((balloc (brefl v8) _).mono z8).trans hc9); have HBB := Lib.hid hbb9; have hs9 : Same v7 [] v9 := same_below hbb9; clear hown9 s9 hc9 hg9 hbb9; dsimp only [Act.put]; simp only [List.setIfInBounds_toArray, List.set_cons_succ, List.set_cons_zero])
        | (refine wpAppO _ _ 24 rfl v7.heap.size 27 (.agg #[.string .empty, .slice none 0 0]) 2 40 Try.underlying24 rpart_info rfl (by decide) _ 3 (encAll [p1, p2, p3]) rfl HO8.out ⟨v7.heap.size, 0, none⟩ 1 1 (PartV.enc ⟨tHmtx, b7, sz, d7, (R ++ List.replicate (2 * q + 2) 0).take sz⟩) rfl rfl ((has_alloc_d v7 _ _).below hb8) (fun u hu => by simp [PartV.enc] at hu; rcases hu with rfl | rfl <;> rfl) (by decide) (by decide) (by omega) ?_; intro a9 c9 v9 hown9 q9 r9 s9 hc9 hg9; have HENC := Lib.hid (has_of_owns hown9); have HKK := Lib.hid (KeptE.grown HO8.out hg9); have hbb9 : Below v7.heap.size v7 v9 := H78.out.trans hc9; have HBB := Lib.hid hbb9; have hs9 : Same v7 [] v9 := same_below hbb9; clear hown9 s9 hc9 hg9 hbb9; dsimp only [Act.put]; simp only [List.setIfInBounds_toArray, List.set_cons_succ, List.set_cons_zero])) | (go_wp2_with ((go_at_call 10; refine (plain_z (k + q) 1000 k _ _ _ (by omega) rfl rfl _ (by omega) (by omega) (by omega)).mono ?_; rintro r v8 ⟨p1, p2, p3, gb, rfl, ho, o1, o2, o3, t1, t2, t3, b1, b2, b3, hb8⟩; have h78 : Below v7.heap.size v7 v8 := (by repeat (first | exact brefl _ | assumption | refine balloc ?_ _ | refine bdrew ?_ _ | refine bdrew1 ?_ | refine bthen ?_ (by assumption) | refine Below.trans ?_ (by assumption) | (refine bset ?_ (by first | (simp; done) | (simp; omega)) _))); have hzz : v7.heap.size ≤ _ := (show Below v7.heap.size v7 _ from (by repeat (first | exact brefl _ | assumption | refine balloc ?_ _ | refine bdrew ?_ _ | refine bdrew1 ?_ | refine bthen ?_ (by assumption) | refine Below.trans ?_ (by assumption) | (refine bset ?_ (by first | (simp; done) | (simp; omega)) _)))).size; have HO8 := Lib.hid (owns_mono ho (show v7.heap.size ≤ _ by first | exact Nat.le_refl _ | (simp only [World.size_drew, World.size_alloc]; omega))); have P1 := Lib.hid (o1.mono (show v7.heap.size ≤ _ by first | exact Nat.le_refl _ | (simp only [World.size_drew, World.size_alloc]; omega))); have P2 := Lib.hid (o2.mono (show v7.heap.size ≤ _ by first | exact Nat.le_refl _ | (simp only [World.size_drew, World.size_alloc]; omega))); have P3 := Lib.hid (o3.mono (show v7.heap.size ≤ _ by first | exact Nat.le_refl _ | (simp only [World.size_drew, World.size_alloc]; omega))); have T1 := Lib.hid t1; have T2 := Lib.hid t2; have T3 := Lib.hid t3; have B1 := Lib.hid b1; have B2 := Lib.hid b2; have B3 := Lib.hid b3; have z8 := h78.size; have H78 := Lib.hid h78; clear ho o1 o2 o3 t1 t2 t3 b1 b2 b3 h78)))); refine HK_.out _ _ (wld_of (by repeat (first | exact same_below (brefl _) | exact same_realloc (by simp) | exact same_below (bdrew1 (brefl _)) | assumption | refine same_drew ?_ | refine same_then ?_ (by assumption) | refine same_alloc ?_ _ | (refine same_set ?_ (by first | (left; simp; done) | (right; simp; done) | (right; simp; omega)) _)))) ?_; clear HK_)
          (refine tree_run (by simp only [List.getElem?_toArray, List.getElem?_cons_succ, List.getElem?_cons_zero]; rfl) (by rfl) (by rfl) (fun K_ hK_ => ?_); have HK_ := Lib.hid hK_; clear hK_; (first | (first
        | (refine wpAppO _ _ 24 rfl v7.heap.size 27 (.agg #[.string .empty, .slice none 0 0]) 2 40 Try.underlying24 rpart_info rfl (by decide) _ 3 (encAll [p1, p2, p3]) rfl (owns_below HO8.out (balloc (brefl v8) _) (Nat.le_refl _)) ⟨v8.heap.size, 0, none⟩ 1 1 (PartV.enc ⟨tHmtx, b7, sz, d7, (R ++ List.replicate (2 * q + 2) 0).take sz⟩) rfl rfl (has_alloc _ _ _) (fun u hu => by simp [PartV.enc] at hu; rcases hu with rfl | rfl <;> rfl) (by decide) (by decide) (by simp; omega) ?_; intro a9 c9 v9 hown9 q9 r9 s9 hc9 hg9; have HENC := Lib.hid (has_of_owns hown9); have HKK := Lib.hid ((KeptE.below (balloc (brefl v8) (Obj.cells (PartV.enc ⟨tHmtx, b7, sz, d7, (R ++ List.replicate (2 * q + 2) 0).take sz⟩).toArray 27))).trans (KeptE.grown (owns_below HO8.out (balloc (brefl v8) _) (Nat.le_refl _)) hg9)); have hbb9 : Below v7.heap.size v7 v9 := H78.out.trans (((balloc (brefl v8) _).mono z8).trans hc9); have HBB := Lib.hid hbb9; have hs9 : Same v7 [] v9 := same_below hbb9; clear hown9 s9 hc9 hg9 hbb9; dsimp only [Act.put]; simp only [List.setIfInBounds_toArray, List.set_cons_succ, List.set_cons_zero])
        | (refine wpAppO _ _ 24 rfl v7.heap.size 27 (.agg #[.string .empty, .slice none 0 0]) 2 40 Try.underlying24 rpart_info rfl (by decide) _ 3 (encAll [p1, p2, p3]) rfl HO8.out ⟨v7.heap.size, 0, none⟩ 1 1 (PartV.enc ⟨tHmtx, b7, sz, d7, (R ++ List.replicate (2 * q + 2) 0).take sz⟩) rfl rfl ((has_alloc_d v7 _ _).below hb8) (fun u hu => by simp [PartV.enc] at hu; rcases hu with rfl | rfl <;> rfl) (by decide) (by decide) (by omega) ?_; intro a9 c9 v9 hown9 q9 r9 s9 hc9 hg9; have HENC := Lib.hid (has_of_owns hown9); have HKK := Lib.hid (KeptE.grown HO8.out hg9); have hbb9 : Below v7.heap.size v7 v9 := H78.out.trans hc9; have HBB := Lib.hid hbb9; have hs9 : Same v7 [] v9 := same_below hbb9; clear hown9 s9 hc9 hg9 hbb9; dsimp only [Act.put]; simp only [List.setIfInBounds_toArray, List.set_cons_succ, List.set_cons_zero])) | (go_wp2_with ((go_at_call 10; refine (plain_z (k + q) 1000 k _ _ _ (by omega) rfl rfl _ (by omega) (by omega) (by omega)).mono ?_; rintro r v8 ⟨p1, p2, p3, gb, rfl, ho, o1, o2, o3, t1, t2, t3, b1, b2, b3, hb8⟩; have h78 : Below v7.heap.size v7 v8 := (by repeat (first | exact brefl _ | assumption | refine balloc ?_ _ | refine bdrew ?_ _ | refine bdrew1 ?_ | refine bthen ?_ (by assumption) | refine Below.trans ?_ (by assumption) | (refine bset ?_ (by first | (simp; done) | (simp; omega)) _))); have hzz : v7.heap.size ≤ _ := (show Below v7.heap.size v7 _ from (by repeat (first | exact brefl _ | assumption | refine balloc ?_ _ | refine bdrew ?_ _ | refine bdrew1 ?_ | refine bthen ?_ (by assumption) | refine Below.trans ?_ (by assumption) | (refine bset ?_ (by first | (simp; done) | (simp; omega)) _)))).size; have HO8 := Lib.hid (owns_mono ho (show v7.heap.size ≤ _ by first | exact Nat.le_refl _ | (simp only [World.size_drew, World.size_alloc]; omega))); have P1 := Lib.hid (o1.mono (show v7.heap.size ≤ _ by first | exact Nat.le_refl _ | (simp only [World.size_drew, World.size_alloc]; omega))); have P2 := Lib.hid (o2.mono (show v7.heap.size ≤ _ by first | exact Nat.le_refl _ | (simp only [World.size_drew, World.size_alloc]; omega))); have P3 := Lib.hid (o3.mono (show v7.heap.size ≤ _ by first | exact Nat.le_refl _ | (simp only [World.size_drew, World.size_alloc]; omega))); have T1 := Lib.hid t1; have T2 := Lib.hid t2; have T3 := Lib.hid t3; have B1 := Lib.hid b1; have B2 := Lib.hid b2; have B3 := Lib.hid b3; have z8 := h78.size; have H78 := Lib.hid h78; clear ho o1 o2 o3 t1 t2 t3 b1 b2 b3 h78)))); refine HK_.out _ _ (wld_of (by repeat (first | exact same_below (brefl _) | exact same_realloc (by simp) | exact same_below (bdrew1 (brefl _)) | assumption | refine same_drew ?_ | refine same_then ?_ (by assumption) | refine same_alloc ?_ _ | (refine same_set ?_ (by first | (left; simp; done) | (right; simp; done) | (right; simp; omega)) _)))) ?_; clear HK_)
          (refine tree_quiet (by simp only [List.getElem?_toArray, List.getElem?_cons_succ, List.getElem?_cons_zero]; rfl) (by rfl) (by rfl) (fun K_ hK_ => ?_); go_big_quiet_op; refine hK_ _ ?_; clear hK_ K_)
          refine tree_nil ?_
          refine leaf_vals [12,65,70,71] (fun x V => Parts4 w V (k + q) k ⟨tHmtx, b7, sz, d7, (R ++ List.replicate (2 * q + 2) 0).take sz⟩ (x 12)) (by rfl) (by first | (simp only [blank, List.setIfInBounds_toArray, List.set_cons_succ, List.set_cons_zero]; rfl) | simp only [blank, List.setIfInBounds_toArray, List.set_cons_succ, List.set_cons_zero]) (hfin_ ()) ?_
          exact parts4_mk rfl q9 r9 HENC.out HB7.out H78.out HBB.out HKK.out P1.out P2.out P3.out HP4.out T1.out T2.out T3.out B1.out B2.out B3.out
        · have HK_ := Lib.hid hK_; clear hK_; (first | (first
        | (refine wpAppO _ _ 24 rfl v7.heap.size 27 (.agg #[.string .empty, .slice none 0 0]) 2 40 Try.underlying24 rpart_info rfl (by decide) _ 3 (encAll [p1, p2, p3]) rfl (owns_below HO8.out (balloc (brefl v8) _) (Nat.le_refl _)) ⟨v8.heap.size, 0, none⟩ 1 1 (PartV.enc ⟨tHmtx, b7, sz, d7, (R ++ List.replicate (2 * q + 2) 0).take sz⟩) rfl rfl (has_alloc _ _ _) (fun u hu => by simp [PartV.enc] at hu; rcases hu with rfl | rfl <;> rfl) (by decide) (by decide) (by simp; omega) ?_; intro a9 c9 v9 hown9 q9 r9 s9 hc9 hg9; have HENC := Lib.hid (has_of_owns hown9); have HKK := Lib.hid ((KeptE.below (balloc (brefl v8) (Obj.cells (PartV.enc ⟨tHmtx, b7, sz, d7, (R ++ List.replicate (2 * q + 2) 0).take sz⟩).toArray 27))).trans (KeptE.grown (owns_below HO8.out (balloc (brefl v8) _) (Nat.le_refl _)) hg9)); have hbb9 : Below v7.heap.size v7 v9 := H78.out.trans (((balloc (brefl v8) _).mono z8).trans hc9); have HBB := Lib.hid hbb9; have hs9 : Same v7 [] v9 := same_below hbb9; clear hown9 s9 hc9 hg9 hbb9; dsimp only [Act.put]; simp only [List.setIfInBounds_toArray, List.set_cons_succ, List.set_cons_zero])
        | (refine wpAppO _ _ 24 rfl v7.heap.size 27 (.agg #[.string .empty, .slice none 0 0]) 2 40 Try.underlying24 rpart_info rfl (by decide) _ 3 (encAll [p1, p2, p3]) rfl HO8.out ⟨v7.heap.size, 0, none⟩ 1 1 (PartV.enc ⟨tHmtx, b7, sz, d7, (R ++ List.replicate (2 * q + 2) 0).take sz⟩) rfl rfl ((has_alloc_d v7 _ _).below hb8) (fun u hu => by simp [PartV.enc] at hu; rcases hu with rfl | rfl <;> rfl) (by decide) (by decide) (by omega) ?_; intro a9 c9 v9 hown9 q9 r9 s9 hc9 hg9; have HENC := Lib.hid (has_of_owns hown9); have HKK := Lib.hid (KeptE.grown HO8.out hg9); have hbb9 : Below v7.heap.size v7 v9 := H78.out.trans hc9; have HBB := Lib.hid hbb9; have hs9 : Same v7 [] v9 := same_below hbb9; clear hown9 s9 hc9 hg9 hbb9; dsimp only [Act.put]; simp only [List.setIfInBounds_toArray, List.set_cons_succ, List.set_cons_zero])) | (go_wp2_with ((go_at_call 10; refine (plain_z (k + q) 1000 k _ _ _ (by omega) rfl rfl _ (by omega) (by omega) (by omega)).mono ?_; rintro r v8 ⟨p1, p2, p3, gb, rfl, ho, o1, o2, o3, t1, t2, t3, b1, b2, b3, hb8⟩; have h78 : Below v7.heap.size v7 v8 := (by repeat (first | exact brefl _ | assumption | refine balloc ?_ _ | refine bdrew ?_ _ | refine bdrew1 ?_ | refine bthen ?_ (by assumption) | refine Below.trans ?_ (by assumption) | (refine bset ?_ (by first | (simp; done) | (simp; omega)) _))); have hzz : v7.heap.size ≤ _ := (show Below v7.heap.size v7 _ from (by repeat (first | exact brefl _ | assumption | refine balloc ?_ _ | refine bdrew ?_ _ | refine bdrew1 ?_ | refine bthen ?_ (by assumption) | refine Below.trans ?_ (by assumption) | (refine bset ?_ (by first | (simp; done) | (simp; omega)) _)))).size; have HO8 := Lib.hid (owns_mono ho (show v7.heap.size ≤ _ by first | exact Nat.le_refl _ | (simp only [World.size_drew, World.size_alloc]; omega))); have P1 := Lib.hid (o1.mono (show v7.heap.size ≤ _ by first | exact Nat.le_refl _ | (simp only [World.size_drew, World.size_alloc]; omega))); have P2 := Lib.hid (o2.mono (show v7.heap.size ≤ _ by first | exact Nat.le_refl _ | (simp only [World.size_drew, World.size_alloc]; omega))); have P3 := Lib.hid (o3.mono (show v7.heap.size ≤ _ by first | exact Nat.le_refl _ | (simp only [World.size_drew, World.size_alloc]; omega))); have T1 := Lib.hid t1; have T2 := Lib.hid t2; have T3 := Lib.hid t3; have B1 := Lib.hid b1; have B2 := Lib.hid b2; have B3 := Lib.hid b3; have z8 := h78.size; have H78 := Lib.hid h78; clear ho o1 o2 o3 t1 t2 t3 b1 b2 b3 h78)))); refine HK_.out _ _ (wld_of (by repeat (first | exact same_below (brefl _) | exact same_realloc (by simp) | exact same_below (bdrew1 (brefl _)) | assumption | refine same_drew ?_ | refine same_then ?_ (by assumption) | refine same_alloc ?_ _ | (refine same_set ?_ (by first | (left; simp; done) | (right; simp; done) | (right; simp; omega)) _)))) ?_; clear HK_
          (refine tree_run (by simp only [List.getElem?_toArray, List.getElem?_cons_succ, List.getElem?_cons_zero]; rfl) (by rfl) (by rfl) (fun K_ hK_ => ?_); have HK_ := Lib.hid hK_; clear hK_; (first | (first
        | (refine wpAppO _ _ 24 rfl v7.heap.size 27 (.agg #[.string .empty, .slice none 0 0]) 2 40 Try.underlying24 rpart_info rfl (by decide) _ 3 (encAll [p1, p2, p3]) rfl (owns_below HO8.out (balloc (brefl v8) _) (Nat.le_refl _)) ⟨v8.heap.size, 0, none⟩ 1 1 (PartV.enc ⟨tHmtx, b7, sz, d7, (R ++ List.replicate (2 * q + 2) 0).take sz⟩) rfl rfl (has_alloc _ _ _) (fun u hu => by simp [PartV.enc] at hu; rcases hu with rfl | rfl <;> rfl) (by decide) (by decide) (by simp; omega) ?_; intro a9 c9 v9 hown9 q9 r9 s9 hc9 hg9; have HENC := Lib.hid (has_of_owns hown9); have HKK := Lib.hid ((KeptE.below (balloc (brefl v8) (Obj.cells (PartV.enc ⟨tHmtx, b7, sz, d7, (R ++ List.replicate (2 * q + 2) 0).take sz⟩).toArray 27))).trans (KeptE.grown (owns_below HO8.out (balloc (brefl v8) _) (Nat.le_refl _)) hg9)); have hbb9 : Below v7.heap.size v7 v9 := H78.out.trans (((balloc (brefl v8) _).mono z8).trans hc9); have HBB := Lib.hid hbb9; have hs9 : Same v7 [] v9 := same_below hbb9; clear hown9 s9 hc9 hg9 hbb9; dsimp only [Act.put]; simp only [List.setIfInBounds_toArray, List.set_cons_succ, List.set_cons_zero])
        | (refine wpAppO _ _ 24 rfl v7.heap.size 27 (.agg #[.string .empty, .slice none 0 0]) 2 40 Try.underlying24 rpart_info rfl (by decide) _ 3 (encAll [p1, p2, p3]) rfl HO8.out ⟨v7.heap.size, 0, none⟩ 1 1 (PartV.enc ⟨tHmtx, b7, sz, d7, (R ++ List.replicate (2 * q + 2) 0).take sz⟩) rfl rfl ((has_alloc_d v7 _ _).below hb8) (fun u hu => by simp [PartV.enc] at hu; rcases hu with rfl | rfl <;> rfl) (by decide) (by decide) (by omega) ?_; intro a9 c9 v9 hown9 q9 r9 s9 hc9 hg9; have HENC := Lib.hid (has_of_owns hown9); have HKK := Lib.hid (KeptE.grown HO8.out hg9); have hbb9 : Below v7.heap.size v7 v9 := H78.out.trans hc9; have HBB := Lib.hid hbb9; have hs9 : Same v7 [] v9 := same_below hbb9; clear hown9 s9 hc9 hg9 hbb9; dsimp only [Act.put]; simp only [List.setIfInBounds_toArray, List.set_cons_succ, List.set_cons_zero])) | (go_wp2_with ((go_at_call 10; refine (plain_z (k + q) 1000 k _ _ _ (by omega) rfl rfl _ (by omega) (by omega) (by omega)).mono ?_; rintro r v8 ⟨p1, p2, p3, gb, rfl, ho, o1, o2, o3, t1, t2, t3, b1, b2, b3, hb8⟩; have h78 : Below v7.heap.size v7 v8 := (by repeat (first | exact brefl _ | assumption | refine balloc ?_ _ | refine bdrew ?_ _ | refine bdrew1 ?_ | refine bthen ?_ (by assumption) | refine Below.trans ?_ (by assumption) | (refine bset ?_ (by first | (simp; done) | (simp; omega)) _))); have hzz : v7.heap.size ≤ _ := (show Below v7.heap.size v7 _ from (by repeat (first | exact brefl _ | assumption | refine balloc ?_ _ | refine bdrew ?_ _ | refine bdrew1 ?_ | refine bthen ?_ (by assumption) | refine Below.trans ?_ (by assumption) | (refine bset ?_ (by first | (simp; done) | (simp; omega)) _)))).size; have HO8 := Lib.hid (owns_mono ho (show v7.heap.size ≤ _ by first | exact Nat.le_refl _ | (simp only [World.size_drew, World.size_alloc]; omega))); have P1 := Lib.hid (o1.mono (show v7.heap.size ≤ _ by first | exact Nat.le_refl _ | (simp only [World.size_drew, World.size_alloc]; omega))); have P2 := Lib.hid (o2.mono (show v7.heap.size ≤ _ by first | exact Nat.le_refl _ | (simp only [World.size_drew, World.size_alloc]; omega))); have P3 := Lib.hid (o3.mono (show v7.heap.size ≤ _ by first | exact Nat.le_refl _ | (simp only [World.size_drew, World.size_alloc]; omega))); have T1 := Lib.hid t1; have T2 := Lib.hid t2; have T3 := Lib.hid t3; have B1 := Lib.hid b1; have B2 := Lib.hid b2; have B3 := Lib.hid b3; have z8 := h78.size; have H78 := Lib.hid h78; clear ho o1 o2 o3 t1 t2 t3 b1 b2 b3 h78)))); refine HK_.out _ _ (wld_of (by repeat (first | exact same_below (brefl _) | exact same_realloc (by simp) | exact same_below (bdrew1 (brefl _)) | assumption | refine same_drew ?_ | refine same_then ?_ (by assumption) | refine same_alloc ?_ _ | (refine same_set ?_ (by first | (left; simp; done) | (right; simp; done) | (right; simp; omega)) _)))) ?_; clear HK_)
          (refine tree_run (by simp only [List.getElem?_toArray, List.getElem?_cons_succ, List.getElem?_cons_zero]; rfl) (by rfl) (by rfl) (fun K_ hK_ => ?_); have HK_ := Lib.hid hK_; clear hK_; (first | (first
        | (refine wpAppO _ _ 24 rfl v7.heap.size 27 (.agg #[.string .empty, .slice none 0 0]) 2 40 Try.underlying24 rpart_info rfl (by decide) _ 3 (encAll [p1, p2, p3]) rfl (owns_below HO8.out (balloc (brefl v8) _) (Nat.le_refl _)) ⟨v8.heap.size, 0, none⟩ 1 1 (PartV.enc ⟨tHmtx, b7, sz, d7, (R ++ List.replicate (2 * q + 2) 0).take sz⟩) rfl rfl (has_alloc _ _ _) (fun u hu => by simp [PartV.enc] at hu; rcases hu with rfl | rfl <;> rfl) (by decide) (by decide) (by simp; omega) ?_; intro a9 c9 v9 hown9 q9 r9 s9 hc9 hg9; have HENC := Lib.hid (has_of_owns hown9); have HKK := Lib.hid ((KeptE.below (balloc (brefl v8) (Obj.cells (PartV.enc ⟨tHmtx, b7, sz, d7, (R ++ List.replicate (2 * q + 2) 0).take sz⟩).toArray 27))).trans (KeptE.grown (owns_below HO8.out (balloc (brefl v8) _) (Nat.le_refl _)) hg9)); have hbb9 : Below v7.heap.size v7 v9 := H78.out.trans (((balloc (brefl v8) _).mono z8).trans hc9); have HBB := Lib.hid hbb9; have hs9 : Same v7 [] v9 := same_below hbb9; clear hown9 s9 hc9 hg9 hbb9; dsimp only [Act.put]; simp only [List.setIfInBounds_toArray, List.set_cons_succ, List.set_cons_zero])
        | (refine wpAppO _ _ 24 rfl v7.heap.size 27 (.agg #[.string .empty, .slice none 0 0]) 2 40 Try.underlying24 rpart_info rfl (by decide) _ 3 (encAll [p1, p2, p3]) rfl HO8.out ⟨v7.heap.size, 0, none⟩ 1 1 (PartV.enc ⟨tHmtx, b7, sz, d7, (R ++ List.replicate (2 * q + 2) 0).take sz⟩) rfl rfl ((has_alloc_d v7 _ _).below hb8) (fun u hu => by simp [PartV.enc] at hu; rcases hu with rfl | rfl <;> rfl) (by decide) (by decide) (by omega) ?_; intro a9 c9 v9 hown9 q9 r9 s9 hc9 hg9; have HENC := Lib.hid (has_of_owns hown9); have HKK := Lib.hid (KeptE.grown HO8.out hg9); have hbb9 : Below v7.heap.size v7 v9 := H78.out.trans hc9; have HBB := Lib.hid hbb9; have hs9 : Same v7 [] v9 := same_below hbb9; clear hown9 s9 hc9 hg9 hbb9; dsimp only [Act.put]; simp only [List.setIfInBounds_toArray, List.set_cons_succ, List.set_cons_zero])) | (go_wp2_with ((go_at_call 10; refine (plain_z (k + q) 1000 k _ _ _ (by omega) rfl rfl _ (by omega) (by omega) (by omega)).mono ?_; rintro r v8 ⟨p1, p2, p3, gb, rfl, ho, o1, o2, o3, t1, t2, t3, b1, b2, b3, hb8⟩; have h78 : Below v7.heap.size v7 v8 := (by repeat (first | exact brefl _ | assumption | refine balloc ?_ _ | refine bdrew ?_ _ | refine bdrew1 ?_ | refine bthen ?_ (by assumption) | refine Below.trans ?_ (by assumption) | (refine bset ?_ (by first | (simp; done) | (simp; omega)) _))); have hzz : v7.heap.size ≤ _ := (show Below v7.heap.size v7 _ from (by repeat (first | exact brefl _ | assumption | refine balloc ?_ _ | refine bdrew ?_ _ | refine bdrew1 ?_ | refine bthen ?_ (by assumption) | refine Below.trans ?_ (by assumption) | (refine bset ?_ (by first | (simp; done) | (simp; omega)) _)))).size; have HO8 := Lib.hid (owns_mono ho (show v7.heap.size ≤ _ by first | exact Nat.le_refl _ | (simp only [World.size_drew, World.size_alloc]; omega))); have P1 := Lib.hid (o1.mono (show v7.heap.size ≤ _ by first | exact Nat.le_refl _ | (simp only [World.size_drew, World.size_alloc]; omega))); have P2 := Lib.hid (o2.mono (show v7.heap.size ≤ _ by first | exact Nat.le_refl _ | (simp only [World.size_drew, World.size_alloc]; omega))); have P3 := Lib.hid (o3.mono (show v7.heap.size ≤ _ by first | exact Nat.le_refl _ | (simp only [World.size_drew, World.size_alloc]; omega))); have T1 := Lib.hid t1; have T2 := Lib.hid t2; have T3 := Lib.hid t3; have B1 := Lib.hid b1; have B2 := Lib.hid b2; have B3 := Lib.hid b3; have z8 := h78.size; have H78 := Lib.hid h78; clear ho o1 o2 o3 t1 t2 t3 b1 b2 b3 h78)))); refine HK_.out _ _ (wld_of (by repeat (first | exact same_below (brefl _) | exact same_realloc (by simp) | exact same_below (bdrew1 (brefl _)) | assumption | refine same_drew ?_ | refine same_then ?_ (by assumption) | refine same_alloc ?_ _ | (refine same_set ?_ (by first | (left; simp; done) | (right; simp; done) | (right; simp; omega)) _)))) ?_; clear HK_)
          (refine tree_quiet (by simp only [List.getElem?_toArray, List.getElem?_cons_succ, List.getElem?_cons_zero]; rfl) (by rfl) (by rfl) (fun K_ hK_ => ?_); go_big_quiet_op; refine hK_ _ ?_; clear hK_ K_)
          refine tree_nil ?_
          refine leaf_vals [12,65,70,71] (fun x V => Parts4 w V (k + q) k ⟨tHmtx, b7, sz, d7, (R ++ List.replicate (2 * q + 2) 0).take sz⟩ (x 12)) (by rfl) (by first | (simp only [blank, List.setIfInBounds_toArray, List.set_cons_succ, List.set_cons_zero]; rfl) | simp only [blank, List.setIfInBounds_toArray, List.set_cons_succ, List.set_cons_zero]) (hfin_ ()) ?_
          exact parts4_mk rfl q9 r9 HENC.out HB7.out H78.out HBB.out HKK.out P1.out P2.out P3.out HP4.out T1.out T2.out T3.out B1.out B2.out B3.out
      intro x V hPT
      simp only [fill, List.setIfInBounds_toArray, List.set_cons_succ, List.set_cons_zero]
      obtain ⟨⟨a9, c9, p1, p2, p3, hx12, m1, m2, hE, o1, o2, o3, o4, t1, t2, t3, e1, e2, e3⟩, hbV⟩ := hPT
      rw [hx12]
      have HM := Lib.hid (rmake_four a9 c9 p1 p2 p3 _ w.heap.size V hE m1 m2 o1 o2 o3 o4 t1 t2 t3 rfl e1 e2 e3 (by omega) (by omega) (by omega) (by show sz ≤ 100000; omega))
      have HBV := Lib.hid hbV
      generalize x 65 = x65
      generalize x 70 = x70
      generalize x 71 = x71
      clear hE o1 o2 o3 o4 t1 t2 t3 e1 e2 e3 hbV hx12
      go_wp2_with fail
      refine HM.out.mono ?_
      clear HM
      rintro r vm ⟨am, nm, cm, F, rfl, hF, hFl, f1, f2, _, _, hP, hbm⟩
      have HFO := Lib.hid (has_of_owns hF)
      have HFL := Lib.hid hFl
      have HPL := Lib.hid (show Plain4 F (k + q) 1000 k ((R ++ List.replicate (2 * q + 2) 0).take sz) from hP)
      have HBM := Lib.hid (HBV.out.trans (hbm.mono HBV.out.size))
      have HTS := Lib.hid (show ((R ++ List.replicate (2 * q + 2) 0).take sz).length = sz by rw [List.length_take, HTL.out]; omega)
      clear hF hFl hP hbm
      by_cases hsh : sz < 4 * k + 2 * q
      · have HW := Lib.hid (wread_short am nm cm F (k + q) 1000 k _ vm HFO.out HFL.out f1 f2 HPL.out (by rw [HTS.out]; omega))
        have hd1 : decide ((sz : Int) < 4 * (k : Int) + 2 * (q : Int)) = true := by simp; omega
        go_wp2_with (first | (go_at_call 14; (with_reducible refine (HW.out).mono ?_); rintro e w5 ⟨rfl, hb5⟩; have h5c := bc hb5; have h5f := bf hb5; have h5z := hb5.size; try simp only [World.size_alloc, World.size_drew] at h5z))
        go_ret
        exact ⟨rfl, HBM.out.trans (hb5.mono HBM.out.size)⟩
      · have HW := Lib.hid (wread_four am nm cm F (k + q) 1000 k _ vm HFO.out HFL.out f1 f2 HPL.out (by decide) (by omega) (by rw [HTS.out]; omega))
        have hd1 : decide ((sz : Int) < 4 * (k : Int) + 2 * (q : Int)) = false := by simp; omega
        go_wp2_with fail
        refine HW.out.mono ?_
        clear HW
        rintro r vr ⟨gw, rfl, hdn, hgw, hbr5⟩
        have hA := adv_any vm.heap.size gw (k + q) 1000 k _ 0 vr.drew (hdn.below (bdrew1 (brefl vr))) (by omega) (by omega) (by omega) (by decide)
        have hval : advOf (k + q) k ((R ++ List.replicate (2 * q + 2) 0).take sz) 0 = vs.getD 0 0 := by
          unfold advOf
          rw [if_pos ⟨by omega, by omega⟩]
          show num _ (4 * min 0 (k - 1)) 2 = _
          rw [Nat.zero_min, num_take _ _ _ (by omega), ← HRR.out]
          exact (rowsF_num vs (fun _ => 3) k 0 _ (by omega) (HV.out _ (by rw [List.getD_eq_getElem?_getD, List.getElem?_eq_getElem (by rw [HL.out]; omega)]; exact List.getElem_mem _)) (by decide)).1
        rw [hval] at hA
        obtain ⟨bb, oo, rfl, hlb, hg⟩ := HH.out.get (by rw [u16V_length, HL.out]; omega)
        have HBR5 := Lib.hid (HBM.out.trans (hbr5.mono HBM.out.size))
        have hcell := (HBR5.out.cell (p := ⟨bb, oo, none⟩) hlb).trans (hg 0 _ (u16V_get vs 0 (by rw [HL.out]; omega)))
        have hbl : bb < vr.heap.size := Nat.lt_of_lt_of_le hlb HBR5.out.size
        have hs6 : vs.getD 0 0 ≤ 65535 := HV.out _ (by rw [List.getD_eq_getElem?_getD, List.getElem?_eq_getElem (by rw [HL.out]; omega)]; exact List.getElem_mem _)
        have hk0 : (0 : Int) < (k : Int) := by omega
        have hk00 : 0 < k := by omega
        have HA := Lib.hid hA
        clear hA hval hg hdn hbr5
        generalize vs.getD 0 0 = s at *
        go_wp2_with fail
        refine wp_region_tree (.step 0 (.step 1 (.step 2 (.step 3 (.step 4 (.step 5 (.step 6 (.step 7 (.step 9 (.step 10 (.step 11 (.step 12 (.step 8 (.step 13 (.step 14 (.step 15 .nil)))))))))))))))) (by kernel_rfl) (by kernel_rfl) (by kernel_rfl) (by kernel_rfl) (by intro _ _ d_ _ _ h_; cases d_ <;> first | exact h_ | (dsimp +zetaDelta only at h_ ⊢; exact h_)) (fun w' => ∃ p : Wld vr [], w' = p.val) (wld_start _ _) ?_
        have hG_ := @wldC vr
        (refine tree_quiet (by simp only [List.getElem?_toArray, List.getElem?_cons_succ, List.getElem?_cons_zero]; rfl) (by rfl) (by rfl) (fun K_ hK_ => ?_); go_big_quiet_op; refine hK_ _ ?_; clear hK_ K_)
        (refine tree_quiet (by simp only [List.getElem?_toArray, List.getElem?_cons_succ, List.getElem?_cons_zero]; rfl) (by rfl) (by rfl) (fun K_ hK_ => ?_); go_big_quiet_op; refine hK_ _ ?_; clear hK_ K_)
        (refine tree_quiet (by simp only [List.getElem?_toArray, List.getElem?_cons_succ, List.getElem?_cons_zero]; rfl) (by rfl) (by rfl) (fun K_ hK_ => ?_); go_big_quiet_op; refine hK_ _ ?_; clear hK_ K_)
        (refine tree_quiet (by simp only [List.getElem?_toArray, List.getElem?_cons_succ, List.getElem?_cons_zero]; rfl) (by rfl) (by rfl) (fun K_ hK_ => ?_); go_big_quiet_op; refine hK_ _ ?_; clear hK_ K_)
        (refine tree_quiet (by simp only [List.getElem?_toArray, List.getElem?_cons_succ, List.getElem?_cons_zero]; rfl) (by rfl) (by rfl) (fun K_ hK_ => ?_); go_big_quiet_op; refine hK_ _ ?_; clear hK_ K_)
        (refine tree_quiet (by simp only [List.getElem?_toArray, List.getElem?_cons_succ, List.getElem?_cons_zero]; rfl) (by rfl) (by rfl) (fun K_ hK_ => ?_); go_big_quiet_op; refine hK_ _ ?_; clear hK_ K_)
        (refine tree_quiet (by simp only [List.getElem?_toArray, List.getElem?_cons_succ, List.getElem?_cons_zero]; rfl) (by rfl) (by rfl) (fun K_ hK_ => ?_); go_big_quiet_op; refine hK_ _ ?_; clear hK_ K_)
        (refine tree_quiet (by simp only [List.getElem?_toArray, List.getElem?_cons_succ, List.getElem?_cons_zero]; rfl) (by rfl) (by rfl) (fun K_ hK_ => ?_); go_big_quiet_op; refine hK_ _ ?_; clear hK_ K_)
        (refine tree_quiet (by simp only [List.getElem?_toArray, List.getElem?_cons_succ, List.getElem?_cons_zero]; rfl) (by rfl) (by rfl) (fun K_ hK_ => ?_); go_big_quiet_op; refine hK_ _ ?_; clear hK_ K_)
        (refine tree_quiet (by simp only [List.getElem?_toArray, List.getElem?_cons_succ, List.getElem?_cons_zero]; rfl) (by rfl) (by rfl) (fun K_ hK_ => ?_); go_big_quiet_op; refine hK_ _ ?_; clear hK_ K_)
        (refine tree_quiet (by simp only [List.getElem?_toArray, List.getElem?_cons_succ, List.getElem?_cons_zero]; rfl) (by rfl) (by rfl) (fun K_ hK_ => ?_); go_big_quiet_op; refine hK_ _ ?_; clear hK_ K_)
        (refine tree_quiet (by simp only [List.getElem?_toArray, List.getElem?_cons_succ, List.getElem?_cons_zero]; rfl) (by rfl) (by rfl) (fun K_ hK_ => ?_); go_big_quiet_op; refine hK_ _ ?_; clear hK_ K_)
        (refine tree_run (by simp only [List.getElem?_toArray, List.getElem?_cons_succ, List.getElem?_cons_zero]; rfl) (by rfl) (by rfl) (fun K_ hK_ => ?_); have HK_ := Lib.hid hK_; clear hK_; go_wp2_with ((go_at_call 16; (with_reducible refine (HA.out).mono ?_); rintro e wa ⟨rfl, hba⟩; have hac := bc hba; have haf := bf hba; have haz := hba.size; try simp only [World.size_alloc, World.size_drew] at haz)); refine HK_.out _ _ (wld_of (by repeat (first | exact same_below (brefl _) | exact same_realloc (by simp) | exact same_below (bdrew1 (brefl _)) | assumption | refine same_drew ?_ | refine same_then ?_ (by assumption) | refine same_alloc ?_ _ | (refine same_set ?_ (by first | (left; simp; done) | (right; simp; done) | (right; simp; omega)) _)))) ?_; clear HK_)
        (refine tree_quiet (by simp only [List.getElem?_toArray, List.getElem?_cons_succ, List.getElem?_cons_zero]; rfl) (by rfl) (by rfl) (fun K_ hK_ => ?_); go_big_quiet_op; refine hK_ _ ?_; clear hK_ K_)
        (refine tree_quiet (by simp only [List.getElem?_toArray, List.getElem?_cons_succ, List.getElem?_cons_zero]; rfl) (by rfl) (by rfl) (fun K_ hK_ => ?_); go_big_quiet_op; refine hK_ _ ?_; clear hK_ K_)
        (refine tree_quiet (by simp only [List.getElem?_toArray, List.getElem?_cons_succ, List.getElem?_cons_zero]; rfl) (by rfl) (by rfl) (fun K_ hK_ => ?_); go_big_quiet_op; refine hK_ _ ?_; clear hK_ K_)
        refine tree_nil ?_
        clear hG_
        go_wp2_with fail
        go_ret
        exact ⟨rfl, HBR5.out.trans (Below.mono (show Below vr.heap.size vr _ from (by repeat (first | exact brefl _ | assumption | refine balloc ?_ _ | refine bdrew ?_ _ | refine bdrew1 ?_ | refine bthen ?_ (by assumption) | refine Below.trans ?_ (by assumption) | (refine bset ?_ (by first | (simp; done) | (simp; omega)) _)))) HBR5.out.size)⟩
end Go.Proofs.Ythacabmnnpibkaa
