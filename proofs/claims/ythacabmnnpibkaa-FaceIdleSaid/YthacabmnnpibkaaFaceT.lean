
/- The contract of face.take. Conditions: as many bytes as the slice says, no more than its capacity. -/
import Derived.Test.YthacabmnnpibkaaFace
namespace Go.Proofs.Ythacabmnnpibkaa
open Go.RowKit Go.Lib

def tMaxp : ByteArray := { data := #[109, 97, 120, 112] }
def tHead : ByteArray := { data := #[104, 101, 97, 100] }
def tHhea : ByteArray := { data := #[104, 104, 101, 97] }
/-- A table's bytes. -/
def tabB (bs : List UInt8) (i : Nat) : List UInt8 := (bs.drop (atAt bs i)).take (lenAt bs i)
structure FaceIs (bs : List UInt8) (g e m i1 i2 i3 : Nat) : Prop where
  t1 : tabOk bs tMaxp.toList 6 i1
  t2 : tabOk bs tHead.toList 54 i2
  t3 : tabOk bs tHhea.toList 36 i3
  kind : num (tabB bs i1) 0 4 = 65536 ∨ num (tabB bs i1) 0 4 = 20480
  magic : num (tabB bs i2) 12 4 = 1594834165
  ng : num (tabB bs i1) 4 2 = g
  ne : num (tabB bs i2) 18 2 = e
  nm : num (tabB bs i3) 34 2 = m
  em : 16 ≤ e ∧ e ≤ 16384
  met : 1 ≤ m ∧ m ≤ g
def Good (bs : List UInt8) (g e m : Nat) : Prop := ∃ i1 i2 i3, FaceIs bs g e m i1 i2 i3
theorem view_has {w : World} {a : Option Addr} {c : Nat} {bs t : List UInt8} {k i : Nat} (h : Has w a (bytesV bs)) (hc : bs.length ≤ c) (ht : tabOk bs t k i) :
    Has w (adv a c (atAt bs i)) (bytesV (tabB bs i)) ∧ (tabB bs i).length = lenAt bs i ∧ lenAt bs i ≤ c - atAt bs i := by
  have hf := (ht.1.1.2 i ht.1.2.1).2
  have h1 := (h.adv c (atAt bs i) (by rw [bytesV_length]; exact hc)).take (lenAt bs i)
  rw [bytesV_drop, bytesV_take] at h1
  exact ⟨h1, by rw [tabB, List.length_take, List.length_drop]; omega, by omega⟩

set_option maxRecDepth 100000 in
set_option maxHeartbeats 3200000 in
theorem ftake_any (a : Option Addr) (n c : Nat) (bs : List UInt8) (w : World) (h : Has w a (bytesV bs)) (hl : bs.length = n) (hn : n ≤ c) (hc : c ≤ maxLen) :
    Calls Try.prog 23 #[.slice a n c] w fun r w' => ((∃ g e m, Good bs g e m ∧ g ≤ 65535 ∧ r = .returned (.agg #[.int .i64 (g : Nat), .int .i64 (e : Nat), .int .i64 (m : Nat)])) ∨ ((∀ g e m, ¬ Good bs g e m) ∧ r = .panicked thrown)) ∧ Below w.heap.size w w' := by
  have HH := Lib.hid h
  have HL := Lib.hid hl
  clear h hl
  have hAC := allocC
  have hAF := allocF
  have HT1 := Lib.hid (fun W hW => table_any a n c bs tMaxp 6 W hW HL.out hn hc)
  have HT2 := Lib.hid (fun W hW => table_any a n c bs tHead 54 W hW HL.out hn hc)
  have HT3 := Lib.hid (fun W hW => table_any a n c bs tHhea 36 W hW HL.out hn hc)
  go_enter Try.func23, Try.ntmps23
  go_wp2_with fail
  refine (HT1.out _ (HH.out.below (by repeat (first | exact brefl _ | assumption | refine balloc ?_ _ | refine bdrew ?_ _ | refine bdrew1 ?_ | refine bthen ?_ (by assumption) | refine Below.trans ?_ (by assumption) | (refine bset ?_ (by first | (simp; done) | (simp; omega)) _))))).mono ?_
  rintro r w1 ⟨(⟨i1, h1, rfl⟩ | ⟨hno, rfl⟩), hb1⟩
  case inr =>
    have HNO := Lib.hid hno
    clear hno
    go_wp2
    exact ⟨rfl, .inr ⟨fun g e m ⟨j1, j2, j3, hx⟩ => HNO.out j1 hx.t1, rfl⟩, (by repeat (first | exact brefl _ | assumption | refine balloc ?_ _ | refine bdrew ?_ _ | refine bdrew1 ?_ | refine bthen ?_ (by assumption) | refine Below.trans ?_ (by assumption) | (refine bset ?_ (by first | (simp; done) | (simp; omega)) _)))⟩
  have e2 : w1.cell? ⟨w.heap.size, 0, none⟩ = some (.int .i64 0) := (hb1.cell (p := ⟨w.heap.size, 0, none⟩) (by simp)).trans (by rw [hAC, if_pos rfl]; rfl)
  have e21 : w1.cell? ⟨w.heap.size, 1, none⟩ = some (.int .i64 0) := (hb1.cell (p := ⟨w.heap.size, 1, none⟩) (by simp)).trans (by rw [hAC, if_pos rfl]; rfl)
  have e22 : w1.cell? ⟨w.heap.size, 2, none⟩ = some (.int .i64 0) := (hb1.cell (p := ⟨w.heap.size, 2, none⟩) (by simp)).trans (by rw [hAC, if_pos rfl]; rfl)
  have f2 : ∀ o, w1.frozen? ⟨w.heap.size, o, none⟩ = false := fun o => (hb1.frozen (p := ⟨w.heap.size, o, none⟩) (by simp)).trans (by rw [hAF, if_pos rfl])
  have HB1 := Lib.hid (show Below w.heap.size w w1 from bthen (balloc (brefl w) _) hb1)
  have hz1 := hb1.size
  simp only [World.size_alloc] at hz1
  have HI1 := Lib.hid h1
  obtain ⟨v1, v1l, v1c⟩ := view_has HH.out (by rw [HL.out]; exact hn) h1
  have hv1 : viewAt a c bs i1 = .slice (adv a c (atAt bs i1)) (lenAt bs i1) (c - atAt bs i1) := rfl
  have hm1 := h1.2
  rw [hv1]
  have HV1 := Lib.hid v1
  have HL1 := Lib.hid v1l
  clear hb1 h1 hv1 v1 v1l
  have hc1 : c - atAt bs i1 ≤ maxLen := Nat.le_trans (Nat.sub_le _ _) hc
  generalize adv a c (atAt bs i1) = A1 at *
  generalize c - atAt bs i1 = C1 at *
  generalize hT1 : lenAt bs i1 = L1 at *
  go_wp2_with fail
  refine (HT2.out _ (HH.out.below (HB1.out.trans ((balloc (brefl w1) _).mono (by omega))))).mono ?_
  rintro r w2 ⟨(⟨i2, h2, rfl⟩ | ⟨hno, rfl⟩), hb2⟩
  case inr =>
    have HNO := Lib.hid hno
    clear hno
    go_wp2
    exact ⟨rfl, .inr ⟨fun g e m ⟨j1, j2, j3, hx⟩ => HNO.out j2 hx.t2, rfl⟩, HB1.out.trans ((show Below w1.heap.size w1 w2 from bthen (balloc (brefl w1) _) hb2).mono (by omega))⟩
  have hbb2 : Below w1.heap.size w1 w2 := bthen (balloc (brefl w1) _) hb2
  have hz2 := hb2.size
  simp only [World.size_alloc] at hz2
  have x2 : w2.cell? ⟨w1.heap.size, 0, none⟩ = some (.slice A1 L1 C1) := (hb2.cell (p := ⟨w1.heap.size, 0, none⟩) (by simp)).trans (by rw [hAC, if_pos rfl]; rfl)
  have HB2 := Lib.hid (show Below w.heap.size w w2 from HB1.out.trans (hbb2.mono (by omega)))
  have HBB2 := Lib.hid hbb2
  have HI2 := Lib.hid h2
  obtain ⟨v2, v2l, v2c⟩ := view_has HH.out (by rw [HL.out]; exact hn) h2
  have hv2 : viewAt a c bs i2 = .slice (adv a c (atAt bs i2)) (lenAt bs i2) (c - atAt bs i2) := rfl
  have hm2 := h2.2
  rw [hv2]
  have HV2 := Lib.hid v2
  have HL2 := Lib.hid v2l
  clear hb2 hbb2 h2 hv2 v2 v2l
  have hc2 : c - atAt bs i2 ≤ maxLen := Nat.le_trans (Nat.sub_le _ _) hc
  generalize adv a c (atAt bs i2) = A2 at *
  generalize c - atAt bs i2 = C2 at *
  generalize hT2 : lenAt bs i2 = L2 at *
  go_wp2_with fail
  refine (HT3.out _ (HH.out.below (HB2.out.trans ((balloc (brefl w2) _).mono (by omega))))).mono ?_
  rintro r w3 ⟨(⟨i3, h3, rfl⟩ | ⟨hno, rfl⟩), hb3⟩
  case inr =>
    have HNO := Lib.hid hno
    clear hno
    go_wp2
    exact ⟨rfl, .inr ⟨fun g e m ⟨j1, j2, j3, hx⟩ => HNO.out j3 hx.t3, rfl⟩, HB2.out.trans ((show Below w2.heap.size w2 w3 from bthen (balloc (brefl w2) _) hb3).mono (by omega))⟩
  have hbb3 : Below w2.heap.size w2 w3 := bthen (balloc (brefl w2) _) hb3
  have hz3 := hb3.size
  simp only [World.size_alloc] at hz3
  have x3 : w3.cell? ⟨w2.heap.size, 0, none⟩ = some (.slice A2 L2 C2) := (hb3.cell (p := ⟨w2.heap.size, 0, none⟩) (by simp)).trans (by rw [hAC, if_pos rfl]; rfl)
  have HB3 := Lib.hid (show Below w.heap.size w w3 from HB2.out.trans (hbb3.mono (by omega)))
  have HBB3 := Lib.hid hbb3
  have HI3 := Lib.hid h3
  obtain ⟨v3, v3l, v3c⟩ := view_has HH.out (by rw [HL.out]; exact hn) h3
  have hv3 : viewAt a c bs i3 = .slice (adv a c (atAt bs i3)) (lenAt bs i3) (c - atAt bs i3) := rfl
  have hm3 := h3.2
  rw [hv3]
  have HV3 := Lib.hid v3
  have HL3 := Lib.hid v3l
  clear hb3 hbb3 h3 hv3 v3 v3l
  have hc3 : c - atAt bs i3 ≤ maxLen := Nat.le_trans (Nat.sub_le _ _) hc
  generalize adv a c (atAt bs i3) = A3 at *
  generalize c - atAt bs i3 = C3 at *
  generalize hT3 : lenAt bs i3 = L3 at *
  -- all three tables are there
  have x2' := (HBB3.out.cell (p := ⟨w1.heap.size, 0, none⟩) (by show w1.heap.size < w2.heap.size; omega)).trans x2
  have hb13 : Below w1.heap.size w1 w3 := HBB2.out.trans (HBB3.out.mono (by omega))
  have y0 := (hb13.cell (p := ⟨w.heap.size, 0, none⟩) (by show w.heap.size < w1.heap.size; omega)).trans e2
  have y1 := (hb13.cell (p := ⟨w.heap.size, 1, none⟩) (by show w.heap.size < w1.heap.size; omega)).trans e21
  have y2 := (hb13.cell (p := ⟨w.heap.size, 2, none⟩) (by show w.heap.size < w1.heap.size; omega)).trans e22
  have yf := fun o => (hb13.frozen (p := ⟨w.heap.size, o, none⟩) (by show w.heap.size < w1.heap.size; omega)).trans (f2 o)
  have l1 : w.heap.size < w3.heap.size := by omega
  have l2 : w1.heap.size < w3.heap.size := by omega
  have l3 : w2.heap.size < w3.heap.size := by omega
  have n1 : ¬ w.heap.size = w3.heap.size := by omega
  have n2 : ¬ w1.heap.size = w3.heap.size := by omega
  have n3 : ¬ w2.heap.size = w3.heap.size := by omega
  have hh1 := Lib.hid (fun (W : World) (hW : Below w3.heap.size w3 W) => u32_z A1 L1 C1 0 0 rfl _ W (HV1.out.below (HB3.out.trans (hW.mono HB3.out.size))) HL1.out (by omega) v1c hc1)
  have hh2 := Lib.hid (fun (W : World) (hW : Below w3.heap.size w3 W) => u32_z A2 L2 C2 12 12 rfl _ W (HV2.out.below (HB3.out.trans (hW.mono HB3.out.size))) HL2.out (by omega) v2c hc2)
  have hh3 := Lib.hid (fun (W : World) (hW : Below w3.heap.size w3 W) => u16_z A1 L1 C1 4 4 rfl _ W (HV1.out.below (HB3.out.trans (hW.mono HB3.out.size))) HL1.out (by omega) v1c hc1)
  have hh4 := Lib.hid (fun (W : World) (hW : Below w3.heap.size w3 W) => u16_z A2 L2 C2 18 18 rfl _ W (HV2.out.below (HB3.out.trans (hW.mono HB3.out.size))) HL2.out (by omega) v2c hc2)
  have hh5 := Lib.hid (fun (W : World) (hW : Below w3.heap.size w3 W) => u16_z A3 L3 C3 34 34 rfl _ W (HV3.out.below (HB3.out.trans (hW.mono HB3.out.size))) HL3.out (by omega) v3c hc3)
  have hg6 := num2_lt (tabB bs i1) 4
  have he6 := num2_lt (tabB bs i2) 18
  have hm6 := num2_lt (tabB bs i3) 34
  have HNO := Lib.hid (fun g e m (hx : Good bs g e m) => (by
    obtain ⟨j1, j2, j3, hx⟩ := hx
    obtain rfl := found_one HI1.out.1 hx.t1.1
    obtain rfl := found_one HI2.out.1 hx.t2.1
    obtain rfl := found_one HI3.out.1 hx.t3.1
    exact hx : FaceIs bs g e m i1 i2 i3))
  clear x2 e2 e21 e22 f2 hb13 HBB2 HBB3 HV1 HV2 HV3 HT1 HT2 HT3
  generalize hz1 : num (tabB bs i1) 0 4 = k1 at *
  generalize hz2 : num (tabB bs i2) 12 4 = k2 at *
  generalize hz3 : num (tabB bs i1) 4 2 = g at *
  generalize hz4 : num (tabB bs i2) 18 2 = e at *
  generalize hz5 : num (tabB bs i3) 34 2 = m at *
  have Z1 := Lib.hid hz1
  have Z2 := Lib.hid hz2
  have Z3 := Lib.hid hz3
  have Z4 := Lib.hid hz4
  have Z5 := Lib.hid hz5
  clear hz1 hz2 hz3 hz4 hz5 hm1 hm2 hm3 v1c v2c v3c hc1 hc2 hc3
  by_cases hk : k1 = 65536 ∨ k1 = 20480
  case neg =>
    have k1a : (((k1 : Nat) : Int) == 65536) = false := by rw [beq_eq_false_iff_ne]; omega
    have k1b : (((k1 : Nat) : Int) == 20480) = false := by rw [beq_eq_false_iff_ne]; omega
    have HKN := Lib.hid hk
    clear hk
    go_wp2_with (first
      | (go_at_call 40; (with_reducible refine (hh1.out _ (by assumption)).mono ?_); rintro e w6 ⟨rfl, hb6⟩; have h6c := bc hb6; have h6f := bf hb6; have h6z := hb6.size; try simp only [World.size_alloc, World.size_drew] at h6z)
      | (go_at_call 40; (with_reducible refine (hh1.out _ ?_).mono ?_); exact balloc (brefl w3) _; rintro r w6 ⟨rfl, hb6⟩)
      | (go_at_call 41; refine (need_f _ (by rfl) _).mono ?_; rintro e w_ ⟨rfl, rfl⟩))
    exact ⟨rfl, .inr ⟨fun g e m hx => HKN.out (by have := (HNO.out g e m hx).kind; rw [Z1.out] at this; exact this), rfl⟩, HB3.out.trans ((show Below w3.heap.size w3 w6 from bthen (balloc (brefl w3) _) hb6).mono (by omega))⟩
  case pos =>
    rcases hk with rfl | rfl
    all_goals
      have HKP := Lib.hid (show num (tabB bs i1) 0 4 = 65536 ∨ num (tabB bs i1) 0 4 = 20480 by rw [Z1.out]; first | exact .inl rfl | exact .inr rfl)
      by_cases hmag : k2 = 1594834165
      case neg =>
        have kb : (((k2 : Nat) : Int) == 1594834165) = false := by rw [beq_eq_false_iff_ne]; omega
        have HKN := Lib.hid hmag
        clear hmag
        go_wp2_with (first
          | (go_at_call 40; (with_reducible refine (hh1.out _ ?_).mono ?_); exact balloc (brefl w3) _; rintro r w6 ⟨rfl, hb6⟩; have h6c := bc hb6; have h6z := hb6.size; simp only [World.size_alloc] at h6z; have HB6 := Lib.hid (show Below w3.heap.size w3 w6 from bthen (balloc (brefl w3) _) hb6); clear hb6)
          | (go_at_call 40; (with_reducible refine (hh2.out _ ?_).mono ?_); exact HB6.out; rintro r w7 ⟨rfl, hb7⟩)
          | (go_at_call 41; refine (need_t _ (by rfl) _).mono ?_; rintro e w_ ⟨rfl, rfl⟩)
          | (go_at_call 41; refine (need_f _ (by rfl) _).mono ?_; rintro e w_ ⟨rfl, rfl⟩))
        exact ⟨rfl, .inr ⟨fun g e m hx => HKN.out (by have := (HNO.out g e m hx).magic; rw [Z2.out] at this; exact this), rfl⟩, HB3.out.trans ((HB6.out.trans (hb7.mono (by omega))).mono (by omega))⟩
      subst hmag
      go_wp2_with (first
        | (go_at_call 40; (with_reducible refine (hh1.out _ ?_).mono ?_); exact balloc (brefl w3) _; rintro r w6 ⟨rfl, hb6⟩; have h6c := bc hb6; have h6z := hb6.size; simp only [World.size_alloc] at h6z; have HB6 := Lib.hid (show Below w3.heap.size w3 w6 from bthen (balloc (brefl w3) _) hb6); have x46 : w6.cell? ⟨w3.heap.size, 0, none⟩ = some (.slice A3 L3 C3) := (hb6.cell (p := ⟨w3.heap.size, 0, none⟩) (by simp)).trans (by rw [hAC, if_pos rfl]; rfl); clear hb6)
        | (go_at_call 40; (with_reducible refine (hh2.out _ ?_).mono ?_); exact HB6.out; rintro r w7 ⟨rfl, hb7⟩; have h7z := hb7.size; have x47 := (hb7.cell (p := ⟨w3.heap.size, 0, none⟩) (by show w3.heap.size < w6.heap.size; omega)).trans x46; have HB7 := Lib.hid (show Below w3.heap.size w3 w7 from HB6.out.trans (hb7.mono (by omega))); clear hb7)
        | (go_at_call 41; refine (need_t _ (by rfl) _).mono ?_; rintro e w_ ⟨rfl, rfl⟩))
      have q0 := (HB7.out.cell (p := ⟨w.heap.size, 0, none⟩) l1).trans y0
      have q1 := (HB7.out.cell (p := ⟨w.heap.size, 1, none⟩) l1).trans y1
      have q2 := (HB7.out.cell (p := ⟨w.heap.size, 2, none⟩) l1).trans y2
      have qf := fun o => (HB7.out.frozen (p := ⟨w.heap.size, o, none⟩) l1).trans (yf o)
      have q3 := (HB7.out.cell (p := ⟨w1.heap.size, 0, none⟩) l2).trans x2'
      have q4 := (HB7.out.cell (p := ⟨w2.heap.size, 0, none⟩) l3).trans x3
      have p1 : w.heap.size < w7.heap.size := by omega
      have p2 : w1.heap.size < w7.heap.size := by omega
      have p3 : w2.heap.size < w7.heap.size := by omega
      have p4 : w3.heap.size < w7.heap.size := by omega
      clear y0 y1 y2 yf x2' x3 x46 h6c
      apply cutP (R := ∀ (g_ : Nat) (x_ : Nat → Value) (W_ : World), (fun g9 W9 => Below w7.heap.size w7 W9 ∧ w7.heap.size ≤ g9 ∧ g9 < W9.heap.size ∧ W9.cell? ⟨g9, 0, none⟩ = some (.int .i64 (g : Nat)) ∧ W9.cell? ⟨g9, 1, none⟩ = some (.int .i64 (e : Nat)) ∧ W9.cell? ⟨g9, 2, none⟩ = some (.int .i64 (m : Nat))) g_ W_ → _)
      · intro hfin_
        refine wp_region_tree (.step 0 (.step 2 (.step 4 (.two 1 (.two 3 (.two 5 (.step 6 (.step 7 (.step 8 .nil))) 7 (.step 5 (.step 6 (.step 8 .nil)))) 7 (.step 3 (.step 5 (.step 6 (.step 8 .nil))))) 7 (.step 1 (.step 3 (.step 5 (.step 6 (.step 8 .nil))))))))) (by kernel_rfl) (by kernel_rfl) (by kernel_rfl) (by kernel_rfl) (by intro _ _ d_ _ _ h_; cases d_ <;> first | exact h_ | (dsimp +zetaDelta only at h_ ⊢; exact h_)) (fun w' => ∃ p : Wld w7 [], w' = p.val) (wld_start _ _) ?_
        have hG_ := @wldC w7
        (refine tree_quiet (by simp only [List.getElem?_toArray, List.getElem?_cons_succ, List.getElem?_cons_zero]; rfl) (by rfl) (by rfl) (fun K_ hK_ => ?_); go_big_quiet_op; refine hK_ _ ?_; clear hK_ K_)
        (refine tree_quiet (by simp only [List.getElem?_toArray, List.getElem?_cons_succ, List.getElem?_cons_zero]; rfl) (by rfl) (by rfl) (fun K_ hK_ => ?_); go_big_quiet_op; refine hK_ _ ?_; clear hK_ K_)
        (refine tree_quiet (by simp only [List.getElem?_toArray, List.getElem?_cons_succ, List.getElem?_cons_zero]; rfl) (by rfl) (by rfl) (fun K_ hK_ => ?_); go_big_quiet_op; refine hK_ _ ?_; clear hK_ K_)
        refine tree_two (by simp only [List.getElem?_toArray, List.getElem?_cons_succ, List.getElem?_cons_zero]; rfl) (by simp only [List.getElem?_toArray, List.getElem?_cons_succ, List.getElem?_cons_zero]; rfl) (by rfl) (by rfl) (fun K_ hK_ => ?_) (fun K_ hK_ => ?_)
        · have HK_ := Lib.hid hK_; clear hK_; go_wp2_with (first
        | (go_at_call 42; (with_reducible refine (hh3.out _ ?_).mono ?_); exact HB7.out.trans (Below.mono (w := w7) (by exact (by repeat (first | exact brefl _ | assumption | refine balloc ?_ _ | refine bdrew ?_ _ | refine bdrew1 ?_ | refine bthen ?_ (by assumption) | refine Below.trans ?_ (by assumption) | (refine bset ?_ (by first | (simp; done) | (simp; omega)) _)))) (by omega)); rintro e wa ⟨rfl, hba⟩; have hac := bc hba; have haf := bf hba; have haz := hba.size; (try simp only [World.size_alloc, World.size_drew] at haz))
        | (go_at_call 42; (with_reducible refine (hh4.out _ ?_).mono ?_); exact HB7.out.trans (Below.mono (w := w7) (by exact (by repeat (first | exact brefl _ | assumption | refine balloc ?_ _ | refine bdrew ?_ _ | refine bdrew1 ?_ | refine bthen ?_ (by assumption) | refine Below.trans ?_ (by assumption) | (refine bset ?_ (by first | (simp; done) | (simp; omega)) _)))) (by omega)); rintro e wb ⟨rfl, hbb⟩; have hbc := bc hbb; have hbf := bf hbb; have hbz := hbb.size; (try simp only [World.size_alloc, World.size_drew] at hbz))
        | (go_at_call 42; (with_reducible refine (hh5.out _ ?_).mono ?_); exact HB7.out.trans (Below.mono (w := w7) (by exact (by repeat (first | exact brefl _ | assumption | refine balloc ?_ _ | refine bdrew ?_ _ | refine bdrew1 ?_ | refine bthen ?_ (by assumption) | refine Below.trans ?_ (by assumption) | (refine bset ?_ (by first | (simp; done) | (simp; omega)) _)))) (by omega)); rintro e wc ⟨rfl, hbcc⟩; have hcc := bc hbcc; have hcf := bf hbcc; have hcz := hbcc.size; (try simp only [World.size_alloc, World.size_drew] at hcz))); refine HK_.out _ _ (wld_of (by repeat (first | exact same_below (brefl _) | exact same_realloc (by simp) | exact same_below (bdrew1 (brefl _)) | assumption | refine same_drew ?_ | refine same_then ?_ (by assumption) | refine same_alloc ?_ _ | (refine same_set ?_ (by first | (left; simp; done) | (right; simp; done) | (right; simp; omega)) _)))) ?_; clear HK_
          refine tree_two (by simp only [List.getElem?_toArray, List.getElem?_cons_succ, List.getElem?_cons_zero]; rfl) (by simp only [List.getElem?_toArray, List.getElem?_cons_succ, List.getElem?_cons_zero]; rfl) (by rfl) (by rfl) (fun K_ hK_ => ?_) (fun K_ hK_ => ?_)
          · have HK_ := Lib.hid hK_; clear hK_; go_wp2_with (first
        | (go_at_call 42; (with_reducible refine (hh3.out _ ?_).mono ?_); exact HB7.out.trans (Below.mono (w := w7) (by exact (by repeat (first | exact brefl _ | assumption | refine balloc ?_ _ | refine bdrew ?_ _ | refine bdrew1 ?_ | refine bthen ?_ (by assumption) | refine Below.trans ?_ (by assumption) | (refine bset ?_ (by first | (simp; done) | (simp; omega)) _)))) (by omega)); rintro e wa ⟨rfl, hba⟩; have hac := bc hba; have haf := bf hba; have haz := hba.size; (try simp only [World.size_alloc, World.size_drew] at haz))
        | (go_at_call 42; (with_reducible refine (hh4.out _ ?_).mono ?_); exact HB7.out.trans (Below.mono (w := w7) (by exact (by repeat (first | exact brefl _ | assumption | refine balloc ?_ _ | refine bdrew ?_ _ | refine bdrew1 ?_ | refine bthen ?_ (by assumption) | refine Below.trans ?_ (by assumption) | (refine bset ?_ (by first | (simp; done) | (simp; omega)) _)))) (by omega)); rintro e wb ⟨rfl, hbb⟩; have hbc := bc hbb; have hbf := bf hbb; have hbz := hbb.size; (try simp only [World.size_alloc, World.size_drew] at hbz))
        | (go_at_call 42; (with_reducible refine (hh5.out _ ?_).mono ?_); exact HB7.out.trans (Below.mono (w := w7) (by exact (by repeat (first | exact brefl _ | assumption | refine balloc ?_ _ | refine bdrew ?_ _ | refine bdrew1 ?_ | refine bthen ?_ (by assumption) | refine Below.trans ?_ (by assumption) | (refine bset ?_ (by first | (simp; done) | (simp; omega)) _)))) (by omega)); rintro e wc ⟨rfl, hbcc⟩; have hcc := bc hbcc; have hcf := bf hbcc; have hcz := hbcc.size; (try simp only [World.size_alloc, World.size_drew] at hcz))); refine HK_.out _ _ (wld_of (by repeat (first | exact same_below (brefl _) | exact same_realloc (by simp) | exact same_below (bdrew1 (brefl _)) | assumption | refine same_drew ?_ | refine same_then ?_ (by assumption) | refine same_alloc ?_ _ | (refine same_set ?_ (by first | (left; simp; done) | (right; simp; done) | (right; simp; omega)) _)))) ?_; clear HK_
            refine tree_two (by simp only [List.getElem?_toArray, List.getElem?_cons_succ, List.getElem?_cons_zero]; rfl) (by simp only [List.getElem?_toArray, List.getElem?_cons_succ, List.getElem?_cons_zero]; rfl) (by rfl) (by rfl) (fun K_ hK_ => ?_) (fun K_ hK_ => ?_)
            · have HK_ := Lib.hid hK_; clear hK_; go_wp2_with (first
        | (go_at_call 42; (with_reducible refine (hh3.out _ ?_).mono ?_); exact HB7.out.trans (Below.mono (w := w7) (by exact (by repeat (first | exact brefl _ | assumption | refine balloc ?_ _ | refine bdrew ?_ _ | refine bdrew1 ?_ | refine bthen ?_ (by assumption) | refine Below.trans ?_ (by assumption) | (refine bset ?_ (by first | (simp; done) | (simp; omega)) _)))) (by omega)); rintro e wa ⟨rfl, hba⟩; have hac := bc hba; have haf := bf hba; have haz := hba.size; (try simp only [World.size_alloc, World.size_drew] at haz))
        | (go_at_call 42; (with_reducible refine (hh4.out _ ?_).mono ?_); exact HB7.out.trans (Below.mono (w := w7) (by exact (by repeat (first | exact brefl _ | assumption | refine balloc ?_ _ | refine bdrew ?_ _ | refine bdrew1 ?_ | refine bthen ?_ (by assumption) | refine Below.trans ?_ (by assumption) | (refine bset ?_ (by first | (simp; done) | (simp; omega)) _)))) (by omega)); rintro e wb ⟨rfl, hbb⟩; have hbc := bc hbb; have hbf := bf hbb; have hbz := hbb.size; (try simp only [World.size_alloc, World.size_drew] at hbz))
        | (go_at_call 42; (with_reducible refine (hh5.out _ ?_).mono ?_); exact HB7.out.trans (Below.mono (w := w7) (by exact (by repeat (first | exact brefl _ | assumption | refine balloc ?_ _ | refine bdrew ?_ _ | refine bdrew1 ?_ | refine bthen ?_ (by assumption) | refine Below.trans ?_ (by assumption) | (refine bset ?_ (by first | (simp; done) | (simp; omega)) _)))) (by omega)); rintro e wc ⟨rfl, hbcc⟩; have hcc := bc hbcc; have hcf := bf hbcc; have hcz := hbcc.size; (try simp only [World.size_alloc, World.size_drew] at hcz))); refine HK_.out _ _ (wld_of (by repeat (first | exact same_below (brefl _) | exact same_realloc (by simp) | exact same_below (bdrew1 (brefl _)) | assumption | refine same_drew ?_ | refine same_then ?_ (by assumption) | refine same_alloc ?_ _ | (refine same_set ?_ (by first | (left; simp; done) | (right; simp; done) | (right; simp; omega)) _)))) ?_; clear HK_
              (refine tree_quiet (by simp only [List.getElem?_toArray, List.getElem?_cons_succ, List.getElem?_cons_zero]; rfl) (by rfl) (by rfl) (fun K_ hK_ => ?_); go_big_quiet_op; refine hK_ _ ?_; clear hK_ K_)
              (refine tree_run (by simp only [List.getElem?_toArray, List.getElem?_cons_succ, List.getElem?_cons_zero]; rfl) (by rfl) (by rfl) (fun K_ hK_ => ?_); have HK_ := Lib.hid hK_; clear hK_; go_wp2_with (first
        | (go_at_call 42; (with_reducible refine (hh3.out _ ?_).mono ?_); exact HB7.out.trans (Below.mono (w := w7) (by exact (by repeat (first | exact brefl _ | assumption | refine balloc ?_ _ | refine bdrew ?_ _ | refine bdrew1 ?_ | refine bthen ?_ (by assumption) | refine Below.trans ?_ (by assumption) | (refine bset ?_ (by first | (simp; done) | (simp; omega)) _)))) (by omega)); rintro e wa ⟨rfl, hba⟩; have hac := bc hba; have haf := bf hba; have haz := hba.size; (try simp only [World.size_alloc, World.size_drew] at haz))
        | (go_at_call 42; (with_reducible refine (hh4.out _ ?_).mono ?_); exact HB7.out.trans (Below.mono (w := w7) (by exact (by repeat (first | exact brefl _ | assumption | refine balloc ?_ _ | refine bdrew ?_ _ | refine bdrew1 ?_ | refine bthen ?_ (by assumption) | refine Below.trans ?_ (by assumption) | (refine bset ?_ (by first | (simp; done) | (simp; omega)) _)))) (by omega)); rintro e wb ⟨rfl, hbb⟩; have hbc := bc hbb; have hbf := bf hbb; have hbz := hbb.size; (try simp only [World.size_alloc, World.size_drew] at hbz))
        | (go_at_call 42; (with_reducible refine (hh5.out _ ?_).mono ?_); exact HB7.out.trans (Below.mono (w := w7) (by exact (by repeat (first | exact brefl _ | assumption | refine balloc ?_ _ | refine bdrew ?_ _ | refine bdrew1 ?_ | refine bthen ?_ (by assumption) | refine Below.trans ?_ (by assumption) | (refine bset ?_ (by first | (simp; done) | (simp; omega)) _)))) (by omega)); rintro e wc ⟨rfl, hbcc⟩; have hcc := bc hbcc; have hcf := bf hbcc; have hcz := hbcc.size; (try simp only [World.size_alloc, World.size_drew] at hcz))); refine HK_.out _ _ (wld_of (by repeat (first | exact same_below (brefl _) | exact same_realloc (by simp) | exact same_below (bdrew1 (brefl _)) | assumption | refine same_drew ?_ | refine same_then ?_ (by assumption) | refine same_alloc ?_ _ | (refine same_set ?_ (by first | (left; simp; done) | (right; simp; done) | (right; simp; omega)) _)))) ?_; clear HK_)
              (refine tree_run (by simp only [List.getElem?_toArray, List.getElem?_cons_succ, List.getElem?_cons_zero]; rfl) (by rfl) (by rfl) (fun K_ hK_ => ?_); have HK_ := Lib.hid hK_; clear hK_; go_wp2_with (first
        | (go_at_call 42; (with_reducible refine (hh3.out _ ?_).mono ?_); exact HB7.out.trans (Below.mono (w := w7) (by exact (by repeat (first | exact brefl _ | assumption | refine balloc ?_ _ | refine bdrew ?_ _ | refine bdrew1 ?_ | refine bthen ?_ (by assumption) | refine Below.trans ?_ (by assumption) | (refine bset ?_ (by first | (simp; done) | (simp; omega)) _)))) (by omega)); rintro e wa ⟨rfl, hba⟩; have hac := bc hba; have haf := bf hba; have haz := hba.size; (try simp only [World.size_alloc, World.size_drew] at haz))
        | (go_at_call 42; (with_reducible refine (hh4.out _ ?_).mono ?_); exact HB7.out.trans (Below.mono (w := w7) (by exact (by repeat (first | exact brefl _ | assumption | refine balloc ?_ _ | refine bdrew ?_ _ | refine bdrew1 ?_ | refine bthen ?_ (by assumption) | refine Below.trans ?_ (by assumption) | (refine bset ?_ (by first | (simp; done) | (simp; omega)) _)))) (by omega)); rintro e wb ⟨rfl, hbb⟩; have hbc := bc hbb; have hbf := bf hbb; have hbz := hbb.size; (try simp only [World.size_alloc, World.size_drew] at hbz))
        | (go_at_call 42; (with_reducible refine (hh5.out _ ?_).mono ?_); exact HB7.out.trans (Below.mono (w := w7) (by exact (by repeat (first | exact brefl _ | assumption | refine balloc ?_ _ | refine bdrew ?_ _ | refine bdrew1 ?_ | refine bthen ?_ (by assumption) | refine Below.trans ?_ (by assumption) | (refine bset ?_ (by first | (simp; done) | (simp; omega)) _)))) (by omega)); rintro e wc ⟨rfl, hbcc⟩; have hcc := bc hbcc; have hcf := bf hbcc; have hcz := hbcc.size; (try simp only [World.size_alloc, World.size_drew] at hcz))); refine HK_.out _ _ (wld_of (by repeat (first | exact same_below (brefl _) | exact same_realloc (by simp) | exact same_below (bdrew1 (brefl _)) | assumption | refine same_drew ?_ | refine same_then ?_ (by assumption) | refine same_alloc ?_ _ | (refine same_set ?_ (by first | (left; simp; done) | (right; simp; done) | (right; simp; omega)) _)))) ?_; clear HK_)
              refine tree_nil ?_
              refine leaf_any 7 [] (fun g9 W9 => Below w7.heap.size w7 W9 ∧ w7.heap.size ≤ g9 ∧ g9 < W9.heap.size ∧ W9.cell? ⟨g9, 0, none⟩ = some (.int .i64 (g : Nat)) ∧ W9.cell? ⟨g9, 1, none⟩ = some (.int .i64 (e : Nat)) ∧ W9.cell? ⟨g9, 2, none⟩ = some (.int .i64 (m : Nat))) _ (by rfl) (by first | (simp only [blank, List.setIfInBounds_toArray, List.set_cons_succ, List.set_cons_zero]; rfl) | simp only [blank, List.setIfInBounds_toArray, List.set_cons_succ, List.set_cons_zero]) (hfin_ ()) ?_
              (refine ⟨(by repeat (first | exact brefl _ | assumption | refine balloc ?_ _ | refine bdrew ?_ _ | refine bdrew1 ?_ | refine bthen ?_ (by assumption) | refine Below.trans ?_ (by assumption) | (refine bset ?_ (by first | (simp; done) | (simp; omega)) _))), ?_, ?_, ?_, ?_, ?_⟩ <;> first | omega | (simp only [World.size_setCell, World.size_alloc, World.size_drew]; omega) | (simp [go_sem, ↓IntWalk.iteOmega, *]; done))
            · have HK_ := Lib.hid hK_; clear hK_; go_wp2_with (first
        | (go_at_call 42; (with_reducible refine (hh3.out _ ?_).mono ?_); exact HB7.out.trans (Below.mono (w := w7) (by exact (by repeat (first | exact brefl _ | assumption | refine balloc ?_ _ | refine bdrew ?_ _ | refine bdrew1 ?_ | refine bthen ?_ (by assumption) | refine Below.trans ?_ (by assumption) | (refine bset ?_ (by first | (simp; done) | (simp; omega)) _)))) (by omega)); rintro e wa ⟨rfl, hba⟩; have hac := bc hba; have haf := bf hba; have haz := hba.size; (try simp only [World.size_alloc, World.size_drew] at haz))
        | (go_at_call 42; (with_reducible refine (hh4.out _ ?_).mono ?_); exact HB7.out.trans (Below.mono (w := w7) (by exact (by repeat (first | exact brefl _ | assumption | refine balloc ?_ _ | refine bdrew ?_ _ | refine bdrew1 ?_ | refine bthen ?_ (by assumption) | refine Below.trans ?_ (by assumption) | (refine bset ?_ (by first | (simp; done) | (simp; omega)) _)))) (by omega)); rintro e wb ⟨rfl, hbb⟩; have hbc := bc hbb; have hbf := bf hbb; have hbz := hbb.size; (try simp only [World.size_alloc, World.size_drew] at hbz))
        | (go_at_call 42; (with_reducible refine (hh5.out _ ?_).mono ?_); exact HB7.out.trans (Below.mono (w := w7) (by exact (by repeat (first | exact brefl _ | assumption | refine balloc ?_ _ | refine bdrew ?_ _ | refine bdrew1 ?_ | refine bthen ?_ (by assumption) | refine Below.trans ?_ (by assumption) | (refine bset ?_ (by first | (simp; done) | (simp; omega)) _)))) (by omega)); rintro e wc ⟨rfl, hbcc⟩; have hcc := bc hbcc; have hcf := bf hbcc; have hcz := hbcc.size; (try simp only [World.size_alloc, World.size_drew] at hcz))); refine HK_.out _ _ (wld_of (by repeat (first | exact same_below (brefl _) | exact same_realloc (by simp) | exact same_below (bdrew1 (brefl _)) | assumption | refine same_drew ?_ | refine same_then ?_ (by assumption) | refine same_alloc ?_ _ | (refine same_set ?_ (by first | (left; simp; done) | (right; simp; done) | (right; simp; omega)) _)))) ?_; clear HK_
              (refine tree_run (by simp only [List.getElem?_toArray, List.getElem?_cons_succ, List.getElem?_cons_zero]; rfl) (by rfl) (by rfl) (fun K_ hK_ => ?_); have HK_ := Lib.hid hK_; clear hK_; go_wp2_with (first
        | (go_at_call 42; (with_reducible refine (hh3.out _ ?_).mono ?_); exact HB7.out.trans (Below.mono (w := w7) (by exact (by repeat (first | exact brefl _ | assumption | refine balloc ?_ _ | refine bdrew ?_ _ | refine bdrew1 ?_ | refine bthen ?_ (by assumption) | refine Below.trans ?_ (by assumption) | (refine bset ?_ (by first | (simp; done) | (simp; omega)) _)))) (by omega)); rintro e wa ⟨rfl, hba⟩; have hac := bc hba; have haf := bf hba; have haz := hba.size; (try simp only [World.size_alloc, World.size_drew] at haz))
        | (go_at_call 42; (with_reducible refine (hh4.out _ ?_).mono ?_); exact HB7.out.trans (Below.mono (w := w7) (by exact (by repeat (first | exact brefl _ | assumption | refine balloc ?_ _ | refine bdrew ?_ _ | refine bdrew1 ?_ | refine bthen ?_ (by assumption) | refine Below.trans ?_ (by assumption) | (refine bset ?_ (by first | (simp; done) | (simp; omega)) _)))) (by omega)); rintro e wb ⟨rfl, hbb⟩; have hbc := bc hbb; have hbf := bf hbb; have hbz := hbb.size; (try simp only [World.size_alloc, World.size_drew] at hbz))
        | (go_at_call 42; (with_reducible refine (hh5.out _ ?_).mono ?_); exact HB7.out.trans (Below.mono (w := w7) (by exact (by repeat (first | exact brefl _ | assumption | refine balloc ?_ _ | refine bdrew ?_ _ | refine bdrew1 ?_ | refine bthen ?_ (by assumption) | refine Below.trans ?_ (by assumption) | (refine bset ?_ (by first | (simp; done) | (simp; omega)) _)))) (by omega)); rintro e wc ⟨rfl, hbcc⟩; have hcc := bc hbcc; have hcf := bf hbcc; have hcz := hbcc.size; (try simp only [World.size_alloc, World.size_drew] at hcz))); refine HK_.out _ _ (wld_of (by repeat (first | exact same_below (brefl _) | exact same_realloc (by simp) | exact same_below (bdrew1 (brefl _)) | assumption | refine same_drew ?_ | refine same_then ?_ (by assumption) | refine same_alloc ?_ _ | (refine same_set ?_ (by first | (left; simp; done) | (right; simp; done) | (right; simp; omega)) _)))) ?_; clear HK_)
              (refine tree_quiet (by simp only [List.getElem?_toArray, List.getElem?_cons_succ, List.getElem?_cons_zero]; rfl) (by rfl) (by rfl) (fun K_ hK_ => ?_); go_big_quiet_op; refine hK_ _ ?_; clear hK_ K_)
              (refine tree_run (by simp only [List.getElem?_toArray, List.getElem?_cons_succ, List.getElem?_cons_zero]; rfl) (by rfl) (by rfl) (fun K_ hK_ => ?_); have HK_ := Lib.hid hK_; clear hK_; go_wp2_with (first
        | (go_at_call 42; (with_reducible refine (hh3.out _ ?_).mono ?_); exact HB7.out.trans (Below.mono (w := w7) (by exact (by repeat (first | exact brefl _ | assumption | refine balloc ?_ _ | refine bdrew ?_ _ | refine bdrew1 ?_ | refine bthen ?_ (by assumption) | refine Below.trans ?_ (by assumption) | (refine bset ?_ (by first | (simp; done) | (simp; omega)) _)))) (by omega)); rintro e wa ⟨rfl, hba⟩; have hac := bc hba; have haf := bf hba; have haz := hba.size; (try simp only [World.size_alloc, World.size_drew] at haz))
        | (go_at_call 42; (with_reducible refine (hh4.out _ ?_).mono ?_); exact HB7.out.trans (Below.mono (w := w7) (by exact (by repeat (first | exact brefl _ | assumption | refine balloc ?_ _ | refine bdrew ?_ _ | refine bdrew1 ?_ | refine bthen ?_ (by assumption) | refine Below.trans ?_ (by assumption) | (refine bset ?_ (by first | (simp; done) | (simp; omega)) _)))) (by omega)); rintro e wb ⟨rfl, hbb⟩; have hbc := bc hbb; have hbf := bf hbb; have hbz := hbb.size; (try simp only [World.size_alloc, World.size_drew] at hbz))
        | (go_at_call 42; (with_reducible refine (hh5.out _ ?_).mono ?_); exact HB7.out.trans (Below.mono (w := w7) (by exact (by repeat (first | exact brefl _ | assumption | refine balloc ?_ _ | refine bdrew ?_ _ | refine bdrew1 ?_ | refine bthen ?_ (by assumption) | refine Below.trans ?_ (by assumption) | (refine bset ?_ (by first | (simp; done) | (simp; omega)) _)))) (by omega)); rintro e wc ⟨rfl, hbcc⟩; have hcc := bc hbcc; have hcf := bf hbcc; have hcz := hbcc.size; (try simp only [World.size_alloc, World.size_drew] at hcz))); refine HK_.out _ _ (wld_of (by repeat (first | exact same_below (brefl _) | exact same_realloc (by simp) | exact same_below (bdrew1 (brefl _)) | assumption | refine same_drew ?_ | refine same_then ?_ (by assumption) | refine same_alloc ?_ _ | (refine same_set ?_ (by first | (left; simp; done) | (right; simp; done) | (right; simp; omega)) _)))) ?_; clear HK_)
              refine tree_nil ?_
              refine leaf_any 7 [] (fun g9 W9 => Below w7.heap.size w7 W9 ∧ w7.heap.size ≤ g9 ∧ g9 < W9.heap.size ∧ W9.cell? ⟨g9, 0, none⟩ = some (.int .i64 (g : Nat)) ∧ W9.cell? ⟨g9, 1, none⟩ = some (.int .i64 (e : Nat)) ∧ W9.cell? ⟨g9, 2, none⟩ = some (.int .i64 (m : Nat))) _ (by rfl) (by first | (simp only [blank, List.setIfInBounds_toArray, List.set_cons_succ, List.set_cons_zero]; rfl) | simp only [blank, List.setIfInBounds_toArray, List.set_cons_succ, List.set_cons_zero]) (hfin_ ()) ?_
              (refine ⟨(by repeat (first | exact brefl _ | assumption | refine balloc ?_ _ | refine bdrew ?_ _ | refine bdrew1 ?_ | refine bthen ?_ (by assumption) | refine Below.trans ?_ (by assumption) | (refine bset ?_ (by first | (simp; done) | (simp; omega)) _))), ?_, ?_, ?_, ?_, ?_⟩ <;> first | omega | (simp only [World.size_setCell, World.size_alloc, World.size_drew]; omega) | (simp [go_sem, ↓IntWalk.iteOmega, *]; done))
          · have HK_ := Lib.hid hK_; clear hK_; go_wp2_with (first
        | (go_at_call 42; (with_reducible refine (hh3.out _ ?_).mono ?_); exact HB7.out.trans (Below.mono (w := w7) (by exact (by repeat (first | exact brefl _ | assumption | refine balloc ?_ _ | refine bdrew ?_ _ | refine bdrew1 ?_ | refine bthen ?_ (by assumption) | refine Below.trans ?_ (by assumption) | (refine bset ?_ (by first | (simp; done) | (simp; omega)) _)))) (by omega)); rintro e wa ⟨rfl, hba⟩; have hac := bc hba; have haf := bf hba; have haz := hba.size; (try simp only [World.size_alloc, World.size_drew] at haz))
        | (go_at_call 42; (with_reducible refine (hh4.out _ ?_).mono ?_); exact HB7.out.trans (Below.mono (w := w7) (by exact (by repeat (first | exact brefl _ | assumption | refine balloc ?_ _ | refine bdrew ?_ _ | refine bdrew1 ?_ | refine bthen ?_ (by assumption) | refine Below.trans ?_ (by assumption) | (refine bset ?_ (by first | (simp; done) | (simp; omega)) _)))) (by omega)); rintro e wb ⟨rfl, hbb⟩; have hbc := bc hbb; have hbf := bf hbb; have hbz := hbb.size; (try simp only [World.size_alloc, World.size_drew] at hbz))
        | (go_at_call 42; (with_reducible refine (hh5.out _ ?_).mono ?_); exact HB7.out.trans (Below.mono (w := w7) (by exact (by repeat (first | exact brefl _ | assumption | refine balloc ?_ _ | refine bdrew ?_ _ | refine bdrew1 ?_ | refine bthen ?_ (by assumption) | refine Below.trans ?_ (by assumption) | (refine bset ?_ (by first | (simp; done) | (simp; omega)) _)))) (by omega)); rintro e wc ⟨rfl, hbcc⟩; have hcc := bc hbcc; have hcf := bf hbcc; have hcz := hbcc.size; (try simp only [World.size_alloc, World.size_drew] at hcz))); refine HK_.out _ _ (wld_of (by repeat (first | exact same_below (brefl _) | exact same_realloc (by simp) | exact same_below (bdrew1 (brefl _)) | assumption | refine same_drew ?_ | refine same_then ?_ (by assumption) | refine same_alloc ?_ _ | (refine same_set ?_ (by first | (left; simp; done) | (right; simp; done) | (right; simp; omega)) _)))) ?_; clear HK_
            (refine tree_run (by simp only [List.getElem?_toArray, List.getElem?_cons_succ, List.getElem?_cons_zero]; rfl) (by rfl) (by rfl) (fun K_ hK_ => ?_); have HK_ := Lib.hid hK_; clear hK_; go_wp2_with (first
        | (go_at_call 42; (with_reducible refine (hh3.out _ ?_).mono ?_); exact HB7.out.trans (Below.mono (w := w7) (by exact (by repeat (first | exact brefl _ | assumption | refine balloc ?_ _ | refine bdrew ?_ _ | refine bdrew1 ?_ | refine bthen ?_ (by assumption) | refine Below.trans ?_ (by assumption) | (refine bset ?_ (by first | (simp; done) | (simp; omega)) _)))) (by omega)); rintro e wa ⟨rfl, hba⟩; have hac := bc hba; have haf := bf hba; have haz := hba.size; (try simp only [World.size_alloc, World.size_drew] at haz))
        | (go_at_call 42; (with_reducible refine (hh4.out _ ?_).mono ?_); exact HB7.out.trans (Below.mono (w := w7) (by exact (by repeat (first | exact brefl _ | assumption | refine balloc ?_ _ | refine bdrew ?_ _ | refine bdrew1 ?_ | refine bthen ?_ (by assumption) | refine Below.trans ?_ (by assumption) | (refine bset ?_ (by first | (simp; done) | (simp; omega)) _)))) (by omega)); rintro e wb ⟨rfl, hbb⟩; have hbc := bc hbb; have hbf := bf hbb; have hbz := hbb.size; (try simp only [World.size_alloc, World.size_drew] at hbz))
        | (go_at_call 42; (with_reducible refine (hh5.out _ ?_).mono ?_); exact HB7.out.trans (Below.mono (w := w7) (by exact (by repeat (first | exact brefl _ | assumption | refine balloc ?_ _ | refine bdrew ?_ _ | refine bdrew1 ?_ | refine bthen ?_ (by assumption) | refine Below.trans ?_ (by assumption) | (refine bset ?_ (by first | (simp; done) | (simp; omega)) _)))) (by omega)); rintro e wc ⟨rfl, hbcc⟩; have hcc := bc hbcc; have hcf := bf hbcc; have hcz := hbcc.size; (try simp only [World.size_alloc, World.size_drew] at hcz))); refine HK_.out _ _ (wld_of (by repeat (first | exact same_below (brefl _) | exact same_realloc (by simp) | exact same_below (bdrew1 (brefl _)) | assumption | refine same_drew ?_ | refine same_then ?_ (by assumption) | refine same_alloc ?_ _ | (refine same_set ?_ (by first | (left; simp; done) | (right; simp; done) | (right; simp; omega)) _)))) ?_; clear HK_)
            (refine tree_run (by simp only [List.getElem?_toArray, List.getElem?_cons_succ, List.getElem?_cons_zero]; rfl) (by rfl) (by rfl) (fun K_ hK_ => ?_); have HK_ := Lib.hid hK_; clear hK_; go_wp2_with (first
        | (go_at_call 42; (with_reducible refine (hh3.out _ ?_).mono ?_); exact HB7.out.trans (Below.mono (w := w7) (by exact (by repeat (first | exact brefl _ | assumption | refine balloc ?_ _ | refine bdrew ?_ _ | refine bdrew1 ?_ | refine bthen ?_ (by assumption) | refine Below.trans ?_ (by assumption) | (refine bset ?_ (by first | (simp; done) | (simp; omega)) _)))) (by omega)); rintro e wa ⟨rfl, hba⟩; have hac := bc hba; have haf := bf hba; have haz := hba.size; (try simp only [World.size_alloc, World.size_drew] at haz))
        | (go_at_call 42; (with_reducible refine (hh4.out _ ?_).mono ?_); exact HB7.out.trans (Below.mono (w := w7) (by exact (by repeat (first | exact brefl _ | assumption | refine balloc ?_ _ | refine bdrew ?_ _ | refine bdrew1 ?_ | refine bthen ?_ (by assumption) | refine Below.trans ?_ (by assumption) | (refine bset ?_ (by first | (simp; done) | (simp; omega)) _)))) (by omega)); rintro e wb ⟨rfl, hbb⟩; have hbc := bc hbb; have hbf := bf hbb; have hbz := hbb.size; (try simp only [World.size_alloc, World.size_drew] at hbz))
        | (go_at_call 42; (with_reducible refine (hh5.out _ ?_).mono ?_); exact HB7.out.trans (Below.mono (w := w7) (by exact (by repeat (first | exact brefl _ | assumption | refine balloc ?_ _ | refine bdrew ?_ _ | refine bdrew1 ?_ | refine bthen ?_ (by assumption) | refine Below.trans ?_ (by assumption) | (refine bset ?_ (by first | (simp; done) | (simp; omega)) _)))) (by omega)); rintro e wc ⟨rfl, hbcc⟩; have hcc := bc hbcc; have hcf := bf hbcc; have hcz := hbcc.size; (try simp only [World.size_alloc, World.size_drew] at hcz))); refine HK_.out _ _ (wld_of (by repeat (first | exact same_below (brefl _) | exact same_realloc (by simp) | exact same_below (bdrew1 (brefl _)) | assumption | refine same_drew ?_ | refine same_then ?_ (by assumption) | refine same_alloc ?_ _ | (refine same_set ?_ (by first | (left; simp; done) | (right; simp; done) | (right; simp; omega)) _)))) ?_; clear HK_)
            (refine tree_quiet (by simp only [List.getElem?_toArray, List.getElem?_cons_succ, List.getElem?_cons_zero]; rfl) (by rfl) (by rfl) (fun K_ hK_ => ?_); go_big_quiet_op; refine hK_ _ ?_; clear hK_ K_)
            (refine tree_run (by simp only [List.getElem?_toArray, List.getElem?_cons_succ, List.getElem?_cons_zero]; rfl) (by rfl) (by rfl) (fun K_ hK_ => ?_); have HK_ := Lib.hid hK_; clear hK_; go_wp2_with (first
        | (go_at_call 42; (with_reducible refine (hh3.out _ ?_).mono ?_); exact HB7.out.trans (Below.mono (w := w7) (by exact (by repeat (first | exact brefl _ | assumption | refine balloc ?_ _ | refine bdrew ?_ _ | refine bdrew1 ?_ | refine bthen ?_ (by assumption) | refine Below.trans ?_ (by assumption) | (refine bset ?_ (by first | (simp; done) | (simp; omega)) _)))) (by omega)); rintro e wa ⟨rfl, hba⟩; have hac := bc hba; have haf := bf hba; have haz := hba.size; (try simp only [World.size_alloc, World.size_drew] at haz))
        | (go_at_call 42; (with_reducible refine (hh4.out _ ?_).mono ?_); exact HB7.out.trans (Below.mono (w := w7) (by exact (by repeat (first | exact brefl _ | assumption | refine balloc ?_ _ | refine bdrew ?_ _ | refine bdrew1 ?_ | refine bthen ?_ (by assumption) | refine Below.trans ?_ (by assumption) | (refine bset ?_ (by first | (simp; done) | (simp; omega)) _)))) (by omega)); rintro e wb ⟨rfl, hbb⟩; have hbc := bc hbb; have hbf := bf hbb; have hbz := hbb.size; (try simp only [World.size_alloc, World.size_drew] at hbz))
        | (go_at_call 42; (with_reducible refine (hh5.out _ ?_).mono ?_); exact HB7.out.trans (Below.mono (w := w7) (by exact (by repeat (first | exact brefl _ | assumption | refine balloc ?_ _ | refine bdrew ?_ _ | refine bdrew1 ?_ | refine bthen ?_ (by assumption) | refine Below.trans ?_ (by assumption) | (refine bset ?_ (by first | (simp; done) | (simp; omega)) _)))) (by omega)); rintro e wc ⟨rfl, hbcc⟩; have hcc := bc hbcc; have hcf := bf hbcc; have hcz := hbcc.size; (try simp only [World.size_alloc, World.size_drew] at hcz))); refine HK_.out _ _ (wld_of (by repeat (first | exact same_below (brefl _) | exact same_realloc (by simp) | exact same_below (bdrew1 (brefl _)) | assumption | refine same_drew ?_ | refine same_then ?_ (by assumption) | refine same_alloc ?_ _ | (refine same_set ?_ (by first | (left; simp; done) | (right; simp; done) | (right; simp; omega)) _)))) ?_; clear HK_)
            refine tree_nil ?_
            refine leaf_any 7 [] (fun g9 W9 => Below w7.heap.size w7 W9 ∧ w7.heap.size ≤ g9 ∧ g9 < W9.heap.size ∧ W9.cell? ⟨g9, 0, none⟩ = some (.int .i64 (g : Nat)) ∧ W9.cell? ⟨g9, 1, none⟩ = some (.int .i64 (e : Nat)) ∧ W9.cell? ⟨g9, 2, none⟩ = some (.int .i64 (m : Nat))) _ (by rfl) (by first | (simp only [blank, List.setIfInBounds_toArray, List.set_cons_succ, List.set_cons_zero]; rfl) | simp only [blank, List.setIfInBounds_toArray, List.set_cons_succ, List.set_cons_zero]) (hfin_ ()) ?_
            (refine ⟨(by repeat (first | exact brefl _ | assumption | refine balloc ?_ _ | refine bdrew ?_ _ | refine bdrew1 ?_ | refine bthen ?_ (by assumption) | refine Below.trans ?_ (by assumption) | (refine bset ?_ (by first | (simp; done) | (simp; omega)) _))), ?_, ?_, ?_, ?_, ?_⟩ <;> first | omega | (simp only [World.size_setCell, World.size_alloc, World.size_drew]; omega) | (simp [go_sem, ↓IntWalk.iteOmega, *]; done))
        · have HK_ := Lib.hid hK_; clear hK_; go_wp2_with (first
        | (go_at_call 42; (with_reducible refine (hh3.out _ ?_).mono ?_); exact HB7.out.trans (Below.mono (w := w7) (by exact (by repeat (first | exact brefl _ | assumption | refine balloc ?_ _ | refine bdrew ?_ _ | refine bdrew1 ?_ | refine bthen ?_ (by assumption) | refine Below.trans ?_ (by assumption) | (refine bset ?_ (by first | (simp; done) | (simp; omega)) _)))) (by omega)); rintro e wa ⟨rfl, hba⟩; have hac := bc hba; have haf := bf hba; have haz := hba.size; (try simp only [World.size_alloc, World.size_drew] at haz))
        | (go_at_call 42; (with_reducible refine (hh4.out _ ?_).mono ?_); exact HB7.out.trans (Below.mono (w := w7) (by exact (by repeat (first | exact brefl _ | assumption | refine balloc ?_ _ | refine bdrew ?_ _ | refine bdrew1 ?_ | refine bthen ?_ (by assumption) | refine Below.trans ?_ (by assumption) | (refine bset ?_ (by first | (simp; done) | (simp; omega)) _)))) (by omega)); rintro e wb ⟨rfl, hbb⟩; have hbc := bc hbb; have hbf := bf hbb; have hbz := hbb.size; (try simp only [World.size_alloc, World.size_drew] at hbz))
        | (go_at_call 42; (with_reducible refine (hh5.out _ ?_).mono ?_); exact HB7.out.trans (Below.mono (w := w7) (by exact (by repeat (first | exact brefl _ | assumption | refine balloc ?_ _ | refine bdrew ?_ _ | refine bdrew1 ?_ | refine bthen ?_ (by assumption) | refine Below.trans ?_ (by assumption) | (refine bset ?_ (by first | (simp; done) | (simp; omega)) _)))) (by omega)); rintro e wc ⟨rfl, hbcc⟩; have hcc := bc hbcc; have hcf := bf hbcc; have hcz := hbcc.size; (try simp only [World.size_alloc, World.size_drew] at hcz))); refine HK_.out _ _ (wld_of (by repeat (first | exact same_below (brefl _) | exact same_realloc (by simp) | exact same_below (bdrew1 (brefl _)) | assumption | refine same_drew ?_ | refine same_then ?_ (by assumption) | refine same_alloc ?_ _ | (refine same_set ?_ (by first | (left; simp; done) | (right; simp; done) | (right; simp; omega)) _)))) ?_; clear HK_
          (refine tree_run (by simp only [List.getElem?_toArray, List.getElem?_cons_succ, List.getElem?_cons_zero]; rfl) (by rfl) (by rfl) (fun K_ hK_ => ?_); have HK_ := Lib.hid hK_; clear hK_; go_wp2_with (first
        | (go_at_call 42; (with_reducible refine (hh3.out _ ?_).mono ?_); exact HB7.out.trans (Below.mono (w := w7) (by exact (by repeat (first | exact brefl _ | assumption | refine balloc ?_ _ | refine bdrew ?_ _ | refine bdrew1 ?_ | refine bthen ?_ (by assumption) | refine Below.trans ?_ (by assumption) | (refine bset ?_ (by first | (simp; done) | (simp; omega)) _)))) (by omega)); rintro e wa ⟨rfl, hba⟩; have hac := bc hba; have haf := bf hba; have haz := hba.size; (try simp only [World.size_alloc, World.size_drew] at haz))
        | (go_at_call 42; (with_reducible refine (hh4.out _ ?_).mono ?_); exact HB7.out.trans (Below.mono (w := w7) (by exact (by repeat (first | exact brefl _ | assumption | refine balloc ?_ _ | refine bdrew ?_ _ | refine bdrew1 ?_ | refine bthen ?_ (by assumption) | refine Below.trans ?_ (by assumption) | (refine bset ?_ (by first | (simp; done) | (simp; omega)) _)))) (by omega)); rintro e wb ⟨rfl, hbb⟩; have hbc := bc hbb; have hbf := bf hbb; have hbz := hbb.size; (try simp only [World.size_alloc, World.size_drew] at hbz))
        | (go_at_call 42; (with_reducible refine (hh5.out _ ?_).mono ?_); exact HB7.out.trans (Below.mono (w := w7) (by exact (by repeat (first | exact brefl _ | assumption | refine balloc ?_ _ | refine bdrew ?_ _ | refine bdrew1 ?_ | refine bthen ?_ (by assumption) | refine Below.trans ?_ (by assumption) | (refine bset ?_ (by first | (simp; done) | (simp; omega)) _)))) (by omega)); rintro e wc ⟨rfl, hbcc⟩; have hcc := bc hbcc; have hcf := bf hbcc; have hcz := hbcc.size; (try simp only [World.size_alloc, World.size_drew] at hcz))); refine HK_.out _ _ (wld_of (by repeat (first | exact same_below (brefl _) | exact same_realloc (by simp) | exact same_below (bdrew1 (brefl _)) | assumption | refine same_drew ?_ | refine same_then ?_ (by assumption) | refine same_alloc ?_ _ | (refine same_set ?_ (by first | (left; simp; done) | (right; simp; done) | (right; simp; omega)) _)))) ?_; clear HK_)
          (refine tree_run (by simp only [List.getElem?_toArray, List.getElem?_cons_succ, List.getElem?_cons_zero]; rfl) (by rfl) (by rfl) (fun K_ hK_ => ?_); have HK_ := Lib.hid hK_; clear hK_; go_wp2_with (first
        | (go_at_call 42; (with_reducible refine (hh3.out _ ?_).mono ?_); exact HB7.out.trans (Below.mono (w := w7) (by exact (by repeat (first | exact brefl _ | assumption | refine balloc ?_ _ | refine bdrew ?_ _ | refine bdrew1 ?_ | refine bthen ?_ (by assumption) | refine Below.trans ?_ (by assumption) | (refine bset ?_ (by first | (simp; done) | (simp; omega)) _)))) (by omega)); rintro e wa ⟨rfl, hba⟩; have hac := bc hba; have haf := bf hba; have haz := hba.size; (try simp only [World.size_alloc, World.size_drew] at haz))
        | (go_at_call 42; (with_reducible refine (hh4.out _ ?_).mono ?_); exact HB7.out.trans (Below.mono (w := w7) (by exact (by repeat (first | exact brefl _ | assumption | refine balloc ?_ _ | refine bdrew ?_ _ | refine bdrew1 ?_ | refine bthen ?_ (by assumption) | refine Below.trans ?_ (by assumption) | (refine bset ?_ (by first | (simp; done) | (simp; omega)) _)))) (by omega)); rintro e wb ⟨rfl, hbb⟩; have hbc := bc hbb; have hbf := bf hbb; have hbz := hbb.size; (try simp only [World.size_alloc, World.size_drew] at hbz))
        | (go_at_call 42; (with_reducible refine (hh5.out _ ?_).mono ?_); exact HB7.out.trans (Below.mono (w := w7) (by exact (by repeat (first | exact brefl _ | assumption | refine balloc ?_ _ | refine bdrew ?_ _ | refine bdrew1 ?_ | refine bthen ?_ (by assumption) | refine Below.trans ?_ (by assumption) | (refine bset ?_ (by first | (simp; done) | (simp; omega)) _)))) (by omega)); rintro e wc ⟨rfl, hbcc⟩; have hcc := bc hbcc; have hcf := bf hbcc; have hcz := hbcc.size; (try simp only [World.size_alloc, World.size_drew] at hcz))); refine HK_.out _ _ (wld_of (by repeat (first | exact same_below (brefl _) | exact same_realloc (by simp) | exact same_below (bdrew1 (brefl _)) | assumption | refine same_drew ?_ | refine same_then ?_ (by assumption) | refine same_alloc ?_ _ | (refine same_set ?_ (by first | (left; simp; done) | (right; simp; done) | (right; simp; omega)) _)))) ?_; clear HK_)
          (refine tree_run (by simp only [List.getElem?_toArray, List.getElem?_cons_succ, List.getElem?_cons_zero]; rfl) (by rfl) (by rfl) (fun K_ hK_ => ?_); have HK_ := Lib.hid hK_; clear hK_; go_wp2_with (first
        | (go_at_call 42; (with_reducible refine (hh3.out _ ?_).mono ?_); exact HB7.out.trans (Below.mono (w := w7) (by exact (by repeat (first | exact brefl _ | assumption | refine balloc ?_ _ | refine bdrew ?_ _ | refine bdrew1 ?_ | refine bthen ?_ (by assumption) | refine Below.trans ?_ (by assumption) | (refine bset ?_ (by first | (simp; done) | (simp; omega)) _)))) (by omega)); rintro e wa ⟨rfl, hba⟩; have hac := bc hba; have haf := bf hba; have haz := hba.size; (try simp only [World.size_alloc, World.size_drew] at haz))
        | (go_at_call 42; (with_reducible refine (hh4.out _ ?_).mono ?_); exact HB7.out.trans (Below.mono (w := w7) (by exact (by repeat (first | exact brefl _ | assumption | refine balloc ?_ _ | refine bdrew ?_ _ | refine bdrew1 ?_ | refine bthen ?_ (by assumption) | refine Below.trans ?_ (by assumption) | (refine bset ?_ (by first | (simp; done) | (simp; omega)) _)))) (by omega)); rintro e wb ⟨rfl, hbb⟩; have hbc := bc hbb; have hbf := bf hbb; have hbz := hbb.size; (try simp only [World.size_alloc, World.size_drew] at hbz))
        | (go_at_call 42; (with_reducible refine (hh5.out _ ?_).mono ?_); exact HB7.out.trans (Below.mono (w := w7) (by exact (by repeat (first | exact brefl _ | assumption | refine balloc ?_ _ | refine bdrew ?_ _ | refine bdrew1 ?_ | refine bthen ?_ (by assumption) | refine Below.trans ?_ (by assumption) | (refine bset ?_ (by first | (simp; done) | (simp; omega)) _)))) (by omega)); rintro e wc ⟨rfl, hbcc⟩; have hcc := bc hbcc; have hcf := bf hbcc; have hcz := hbcc.size; (try simp only [World.size_alloc, World.size_drew] at hcz))); refine HK_.out _ _ (wld_of (by repeat (first | exact same_below (brefl _) | exact same_realloc (by simp) | exact same_below (bdrew1 (brefl _)) | assumption | refine same_drew ?_ | refine same_then ?_ (by assumption) | refine same_alloc ?_ _ | (refine same_set ?_ (by first | (left; simp; done) | (right; simp; done) | (right; simp; omega)) _)))) ?_; clear HK_)
          (refine tree_quiet (by simp only [List.getElem?_toArray, List.getElem?_cons_succ, List.getElem?_cons_zero]; rfl) (by rfl) (by rfl) (fun K_ hK_ => ?_); go_big_quiet_op; refine hK_ _ ?_; clear hK_ K_)
          (refine tree_run (by simp only [List.getElem?_toArray, List.getElem?_cons_succ, List.getElem?_cons_zero]; rfl) (by rfl) (by rfl) (fun K_ hK_ => ?_); have HK_ := Lib.hid hK_; clear hK_; go_wp2_with (first
        | (go_at_call 42; (with_reducible refine (hh3.out _ ?_).mono ?_); exact HB7.out.trans (Below.mono (w := w7) (by exact (by repeat (first | exact brefl _ | assumption | refine balloc ?_ _ | refine bdrew ?_ _ | refine bdrew1 ?_ | refine bthen ?_ (by assumption) | refine Below.trans ?_ (by assumption) | (refine bset ?_ (by first | (simp; done) | (simp; omega)) _)))) (by omega)); rintro e wa ⟨rfl, hba⟩; have hac := bc hba; have haf := bf hba; have haz := hba.size; (try simp only [World.size_alloc, World.size_drew] at haz))
        | (go_at_call 42; (with_reducible refine (hh4.out _ ?_).mono ?_); exact HB7.out.trans (Below.mono (w := w7) (by exact (by repeat (first | exact brefl _ | assumption | refine balloc ?_ _ | refine bdrew ?_ _ | refine bdrew1 ?_ | refine bthen ?_ (by assumption) | refine Below.trans ?_ (by assumption) | (refine bset ?_ (by first | (simp; done) | (simp; omega)) _)))) (by omega)); rintro e wb ⟨rfl, hbb⟩; have hbc := bc hbb; have hbf := bf hbb; have hbz := hbb.size; (try simp only [World.size_alloc, World.size_drew] at hbz))
        | (go_at_call 42; (with_reducible refine (hh5.out _ ?_).mono ?_); exact HB7.out.trans (Below.mono (w := w7) (by exact (by repeat (first | exact brefl _ | assumption | refine balloc ?_ _ | refine bdrew ?_ _ | refine bdrew1 ?_ | refine bthen ?_ (by assumption) | refine Below.trans ?_ (by assumption) | (refine bset ?_ (by first | (simp; done) | (simp; omega)) _)))) (by omega)); rintro e wc ⟨rfl, hbcc⟩; have hcc := bc hbcc; have hcf := bf hbcc; have hcz := hbcc.size; (try simp only [World.size_alloc, World.size_drew] at hcz))); refine HK_.out _ _ (wld_of (by repeat (first | exact same_below (brefl _) | exact same_realloc (by simp) | exact same_below (bdrew1 (brefl _)) | assumption | refine same_drew ?_ | refine same_then ?_ (by assumption) | refine same_alloc ?_ _ | (refine same_set ?_ (by first | (left; simp; done) | (right; simp; done) | (right; simp; omega)) _)))) ?_; clear HK_)
          refine tree_nil ?_
          refine leaf_any 7 [] (fun g9 W9 => Below w7.heap.size w7 W9 ∧ w7.heap.size ≤ g9 ∧ g9 < W9.heap.size ∧ W9.cell? ⟨g9, 0, none⟩ = some (.int .i64 (g : Nat)) ∧ W9.cell? ⟨g9, 1, none⟩ = some (.int .i64 (e : Nat)) ∧ W9.cell? ⟨g9, 2, none⟩ = some (.int .i64 (m : Nat))) _ (by rfl) (by first | (simp only [blank, List.setIfInBounds_toArray, List.set_cons_succ, List.set_cons_zero]; rfl) | simp only [blank, List.setIfInBounds_toArray, List.set_cons_succ, List.set_cons_zero]) (hfin_ ()) ?_
          (refine ⟨(by repeat (first | exact brefl _ | assumption | refine balloc ?_ _ | refine bdrew ?_ _ | refine bdrew1 ?_ | refine bthen ?_ (by assumption) | refine Below.trans ?_ (by assumption) | (refine bset ?_ (by first | (simp; done) | (simp; omega)) _))), ?_, ?_, ?_, ?_, ?_⟩ <;> first | omega | (simp only [World.size_setCell, World.size_alloc, World.size_drew]; omega) | (simp [go_sem, ↓IntWalk.iteOmega, *]; done))
      intro g9 x9 W9 ⟨b9, hg9, hg9', r0, r1, r2⟩
      simp only [fill, List.setIfInBounds_toArray, List.set_cons_succ, List.set_cons_zero]
      have HB9 := Lib.hid (HB7.out.trans (b9.mono (by omega)))
      have HW9 := Lib.hid (HB3.out.trans (HB9.out.mono (by omega)))
      have s0 := (b9.cell (p := ⟨w.heap.size, 0, none⟩) p1).trans q0
      have s1 := (b9.cell (p := ⟨w.heap.size, 1, none⟩) p1).trans q1
      have s2 := (b9.cell (p := ⟨w.heap.size, 2, none⟩) p1).trans q2
      have sf := fun o => (b9.frozen (p := ⟨w.heap.size, o, none⟩) p1).trans (qf o)
      clear q0 q1 q2 q3 q4 qf b9
      by_cases hem : 16 ≤ e ∧ e ≤ 16384
      case neg =>
        have HE := Lib.hid hem
        by_cases he1 : 16 ≤ e
        · have d1 : decide ((16 : Int) ≤ ((e : Nat) : Int)) = true := by simp; omega
          have d2 : decide (((e : Nat) : Int) ≤ 16384) = false := by simp; omega
          clear hem
          go_wp2_with (first | (go_at_call 41; refine (need_f _ (by rfl) _).mono ?_; rintro e w_ ⟨rfl, rfl⟩))
          exact ⟨rfl, .inr ⟨fun g e m hx => HE.out (by have h := HNO.out g e m hx; have h4 := h.ne; rw [Z4.out] at h4; subst h4; exact h.em), rfl⟩, HW9.out⟩
        · have d1 : decide ((16 : Int) ≤ ((e : Nat) : Int)) = false := by simp; omega
          clear hem
          go_wp2_with (first | (go_at_call 41; refine (need_f _ (by rfl) _).mono ?_; rintro e w_ ⟨rfl, rfl⟩))
          exact ⟨rfl, .inr ⟨fun g e m hx => HE.out (by have h := HNO.out g e m hx; have h4 := h.ne; rw [Z4.out] at h4; subst h4; exact h.em), rfl⟩, HW9.out⟩
      have d1 : decide ((16 : Int) ≤ ((e : Nat) : Int)) = true := by simp; omega
      have d2 : decide (((e : Nat) : Int) ≤ 16384) = true := by simp; omega
      have HEM := Lib.hid hem
      clear hem
      by_cases hmt : 1 ≤ m ∧ m ≤ g
      case neg =>
        have HE := Lib.hid hmt
        by_cases he1 : 1 ≤ m
        · have d3 : decide ((1 : Int) ≤ ((m : Nat) : Int)) = true := by simp; omega
          have d4 : decide (((m : Nat) : Int) ≤ ((g : Nat) : Int)) = false := by simp; omega
          have d5 : decide (m ≤ g) = false := by simp; omega
          clear hmt
          go_wp2_with (first | (go_at_call 41; refine (need_t _ (by rfl) _).mono ?_; rintro e w_ ⟨rfl, rfl⟩) | (go_at_call 41; refine (need_f _ (by rfl) _).mono ?_; rintro e w_ ⟨rfl, rfl⟩))
          exact ⟨rfl, .inr ⟨fun g e m hx => HE.out (by have h := HNO.out g e m hx; have h4 := h.nm; rw [Z5.out] at h4; have h5 := h.ng; rw [Z3.out] at h5; subst h4; subst h5; exact h.met), rfl⟩, HW9.out⟩
        · have d3 : decide ((1 : Int) ≤ ((m : Nat) : Int)) = false := by simp; omega
          clear hmt
          go_wp2_with (first | (go_at_call 41; refine (need_t _ (by rfl) _).mono ?_; rintro e w_ ⟨rfl, rfl⟩) | (go_at_call 41; refine (need_f _ (by rfl) _).mono ?_; rintro e w_ ⟨rfl, rfl⟩))
          exact ⟨rfl, .inr ⟨fun g e m hx => HE.out (by have h := HNO.out g e m hx; have h4 := h.nm; rw [Z5.out] at h4; have h5 := h.ng; rw [Z3.out] at h5; subst h4; subst h5; exact h.met), rfl⟩, HW9.out⟩
      have d3 : decide ((1 : Int) ≤ ((m : Nat) : Int)) = true := by simp; omega
      have d4 : decide (((m : Nat) : Int) ≤ ((g : Nat) : Int)) = true := by simp; omega
      have d5 : decide (m ≤ g) = true := by simp; omega
      have HMT := Lib.hid hmt
      clear hmt
      have p9 : w.heap.size < W9.heap.size := by omega
      go_wp2_with (first | (go_at_call 41; refine (need_t _ (by rfl) _).mono ?_; rintro e w_ ⟨rfl, rfl⟩))
      refine bodyPost_ret (v := .agg #[.int .i64 (g : Nat), .int .i64 (e : Nat), .int .i64 (m : Nat)]) (by simp [results, Try.results23, go_sem, s0, s1, s2, sf]) rfl ?_
      have hok : Good bs g e m := ⟨i1, i2, i3, HI1.out, HI2.out, HI3.out, HKP.out, Z2.out, Z3.out, Z4.out, Z5.out, HEM.out, HMT.out⟩
      exact ⟨.inl ⟨g, e, m, hok, hg6, rfl⟩, bset (bset (bset HW9.out (by simp) _) (by simp) _) (by simp) _⟩
end Go.Proofs.Ythacabmnnpibkaa
