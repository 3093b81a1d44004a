
/- The walk of FaceIdle. No condition but numbers of their kinds. -/
import Derived.Test.YthacabmnnpibkaaFIdle
namespace Go.Proofs.Ythacabmnnpibkaa
open Go.RowKit Go.Lib

set_option maxRecDepth 100000 in
set_option maxHeartbeats 3200000 in
theorem faceIdle_walk (f g0 e0 : Nat) (w : World) (hf : f ≤ 255) (hg0 : g0 ≤ 65535) (he0 : e0 ≤ 65535) :
    Calls Try.prog 4 #[.int .u8 (f : Nat), .int .u16 (g0 : Nat), .int .u16 (e0 : Nat)] w fun r w' => r = .returned (.bool true) ∧ Below w.heap.size w w' := by
  have hAC := allocC
  have hK0 := idxK0
  have hK1 := idxK1
  have hK2 := idxK2
  obtain ⟨g, hg⟩ : ∃ g, g = 1 + g0 % 65535 := ⟨_, rfl⟩
  obtain ⟨e, he⟩ : ∃ e, e = 16 + e0 % 16000 := ⟨_, rfl⟩
  have hgb : 1 ≤ g ∧ g ≤ 65535 := by omega
  have heb : 16 ≤ e ∧ e ≤ 16384 := by omega
  have hgi : (1 : Int) + (g0 : Int) % 65535 = (g : Int) := by omega
  have hei : (16 : Int) + (e0 : Int) % 16000 = (e : Int) := by omega
  have HGI := Lib.hid hgi
  have HEI := Lib.hid hei
  clear hg he hgi hei
  go_enter Try.func4, Try.ntmps4
  go_wp2_with (first | (go_at_call 9; refine (speaks_face _).mono ?_; rintro e w1 ⟨rfl, hb1⟩; have h1c := bc hb1; have h1f := bf hb1; have h1z := hb1.size; try simp only [World.size_alloc, World.size_drew] at h1z))
  have HB1 := Lib.hid hb1
  clear h1c h1f hb1
  simp only [HGI.out, HEI.out]
  refine (plain_d g e 1 w1 (by omega) (by omega) (by decide)).mono ?_
  rintro r w2 ⟨p1, p2, p3, b, rfl, ho, o1, o2, o3, t1, t2, t3, e1, e2, e3, hb2, f12, f13, f23⟩
  obtain ⟨P, hP0, hP1, hP2⟩ : ∃ P : Nat → PartV, P 0 = p1 ∧ P 1 = p2 ∧ P 2 = p3 := ⟨fun i => if i = 0 then p1 else if i = 1 then p2 else p3, by simp, by simp, by simp⟩
  subst hP0
  subst hP1
  subst hP2
  have n1 : (P 0).n = 6 := by rw [← o1.len, e1]; simp [maxpB, be4, be2]
  have n2 : (P 1).n = 54 := by rw [← o2.len, e2]; simp [headB, be4, be2]
  have n3 : (P 2).n = 36 := by rw [← o3.len, e3]; simp [hheaB, be2]
  have HFAR := Lib.hid (show ∀ i j, i < 3 → j < 3 → i ≠ j → FarB (P i) (P j) from fun i j hi hj hij => by
    obtain rfl | rfl | rfl : i = 0 ∨ i = 1 ∨ i = 2 := by omega
    all_goals
      obtain rfl | rfl | rfl : j = 0 ∨ j = 1 ∨ j = 2 := by omega
      all_goals first | exact absurd rfl hij | exact f12 | exact f13 | exact f23 | exact f12.symm | exact f13.symm | exact f23.symm)
  obtain ⟨x0, hx0, lx0, _⟩ := o1.form (by omega)
  obtain ⟨x1, hx1, lx1, _⟩ := o2.form (by omega)
  obtain ⟨x2, hx2, lx2, _⟩ := o3.form (by omega)
  have HI := Lib.hid (idle_start ho o1 o2 o3 hb2.size)
  have HB2 := Lib.hid (show Below w1.heap.size w1 (((w2.alloc (.cells #[.int .i64 0, .int .i64 1, .int .i64 2, .int .i64 3, .int .i64 4, .int .i64 5] 3)).alloc (.cells #[.int .i64 12, .int .i64 13, .int .i64 14, .int .i64 15, .int .i64 18, .int .i64 19] 3)).alloc (.cells #[.int .i64 34, .int .i64 35] 3)) from bthen hb2 (balloc (balloc (balloc (brefl w2) _) _) _))
  have hc0 : 6 ≤ (P 0).c ∧ (P 0).c ≤ 9223372036854775807 := ⟨n1 ▸ o1.le, o1.max⟩
  have hc1 : 54 ≤ (P 1).c ∧ (P 1).c ≤ 9223372036854775807 := ⟨n2 ▸ o2.le, o2.max⟩
  have hc2 : 36 ≤ (P 2).c ∧ (P 2).c ≤ 9223372036854775807 := ⟨n3 ▸ o3.le, o3.max⟩
  have HM := Lib.hid (fun (V : World) (hI : IdleI w1.heap.size b w2.heap.size P V) => idle_make hI t1 t2 t3 e1 e2 e3 n1 n2 n3 (by omega) (by omega) (by decide))
  have N0 := Lib.hid n1
  have N1 := Lib.hid n2
  have N2 := Lib.hid n3
  have X0 := Lib.hid hx0
  have X1 := Lib.hid hx1
  have X2 := Lib.hid hx2
  have hbb : b < w2.heap.size := (ho.lt b rfl).2
  have hz2 := hb2.size
  have hlb : w1.heap.size ≤ b := (ho.lt b rfl).1
  clear ho o1 o2 o3 t1 t2 t3 e1 e2 e3 hb2 f12 f13 f23 n1 n2 n3 hx0 hx1 hx2
  obtain ⟨gK, hgK⟩ : ∃ gK, gK = w2.heap.size := ⟨_, rfl⟩
  go_wp2_with fail
  go_loopw [35] (IdleRel w1.heap.size b w2.heap.size P w1 3) (fun i _ => 3 - (intOf i).toNat)
  case atStart => exact ⟨0, Nat.zero_le _, rfl, HI.out, HB2.out⟩
  case round =>
    obtain ⟨i, hi, rfl, hI, hbr⟩ := hrel
    have HIW := Lib.hid hI
    have HBR := Lib.hid hbr
    clear hI hbr
    by_cases hlt : i < 3
    · obtain rfl | rfl | rfl : i = 0 ∨ i = 1 ∨ i = 2 := by omega
      · have y1 := (HIW.out.row.cellAt 1 (by decide)).trans (show (encAll [P 0, P 1, P 2])[1]? = some (.slice (some ⟨x0, 0, none⟩) 6 (P 0).c) from by rw [← X0.out, ← N0.out]; rfl)
        have hbw : b < wr.heap.size := (HIW.out.row.lt b rfl).2
        go_wp2_with fail
        go_loopw [45] (IdleRel w1.heap.size b w2.heap.size P w1 6) (fun k _ => 6 - (intOf k).toNat)
        case atStart => exact ⟨0, Nat.zero_le _, rfl, HIW.out, HBR.out⟩
        case round =>
          rename World => WA
          obtain ⟨k, hk, rfl, hI2, hbr2⟩ := hrel
          have HIA := Lib.hid hI2
          have HBA := Lib.hid hbr2
          clear hI2 hbr2 y1
          by_cases hkl : k < 6
          · have HKL := Lib.hid hkl
            go_wp2_with fail
            go_loopw [13, 50] (OwnRel WA 0 k) (fun _ m _ => 6 - (intOf m).toNat)
            case atStart => exact ⟨0, Nat.zero_le _, rfl, by simp, rfl⟩
            case round =>
              obtain ⟨q, hq, rfl, rfl, rfl⟩ := hrel
              have hq' : q ≤ 6 := hq
              clear hq
              by_cases hql : q < 6
              · have HQL := Lib.hid (show q + 1 ≤ (keepL 0).length from hql)
                obtain ⟨x, hx⟩ : ∃ x, (keepL 0)[q]? = some x := ⟨_, List.getElem?_eq_getElem (show q < (keepL 0).length from hql)⟩
                have hcell : WA.cell? ⟨w2.heap.size, q, none⟩ = some (.int .i64 (x : Nat)) := ((HIA.out.keep 0 (by decide)).cellAt q (by show q < 6 * 1; omega)).trans (by simp [keepV, hx])
                have HNEW := Lib.hid (keep_step (k := k) hx)
                have hkb : w2.heap.size < WA.heap.size := ((HIA.out.keep 0 (by decide)).lt (w2.heap.size) rfl).2
                clear hx
                generalize decide (k ∈ (keepL 0).take q) = own at *
                cases own with
                | true =>
                  go_wp2_with fail
                  go_roundw
                  case rel => exact ⟨q + 1, HQL.out, by go_num, by rw [HNEW.out]; simp, rfl⟩
                  case measure => simp [intOf]; have := HQL.out; omega
                | false =>
                  go_wp2_with fail
                  go_roundw
                  case rel => exact ⟨q + 1, HQL.out, by go_num, by rw [HNEW.out, Bool.false_or, ← cmp_nat], rfl⟩
                  case measure => simp [intOf]; have := HQL.out; omega
              · obtain rfl : q = 6 := by omega
                rw [show (keepL 0).take 6 = keepL 0 from rfl]
                by_cases hko : k ∈ keepL 0
                · rw [show decide (k ∈ keepL 0) = true from by simp [hko]]
                  go_wp2_with fail
                  go_roundw
                  case rel => exact ⟨k + 1, HKL.out, by go_num, HIA.out, HBA.out⟩
                  case measure => simp [intOf]; have := HKL.out; omega
                · rw [show decide (k ∈ keepL 0) = false from by simp [hko]]
                  have y1 := (HIA.out.row.cellAt 1 (by decide)).trans (show (encAll [P 0, P 1, P 2])[1]? = some (.slice (some ⟨x0, 0, none⟩) 6 (P 0).c) from by rw [← X0.out, ← N0.out]; rfl)
                  have hbw2 : b < WA.heap.size := (HIA.out.row.lt b rfl).2
                  obtain ⟨v, hv, hfv⟩ := HIA.out.cellAt (j := 0) (k := k) (by decide) X0.out (by rw [N0.out]; exact HKL.out)
                  have HST := Lib.hid (HIA.out.store HFAR.out (j := 0) (by decide) X0.out hko f hf)
                  clear hko
                  go_wp2_with fail
                  go_roundw
                  case rel => exact ⟨k + 1, HKL.out, by go_num, HST.out, HBA.out.setCell lx0 _⟩
                  case measure => simp [intOf]; have := HKL.out; omega
          · obtain rfl : k = 6 := by omega
            go_wp2_with fail
            go_roundw
            case rel => exact ⟨1, by decide, by go_num, HIA.out, HBA.out⟩
            case measure => simp [intOf]
      · have y1 := (HIW.out.row.cellAt 3 (by decide)).trans (show (encAll [P 0, P 1, P 2])[3]? = some (.slice (some ⟨x1, 0, none⟩) 54 (P 1).c) from by rw [← X1.out, ← N1.out]; rfl)
        have hbw : b < wr.heap.size := (HIW.out.row.lt b rfl).2
        go_wp2_with fail
        go_loopw [45] (IdleRel w1.heap.size b w2.heap.size P w1 54) (fun k _ => 54 - (intOf k).toNat)
        case atStart => exact ⟨0, Nat.zero_le _, rfl, HIW.out, HBR.out⟩
        case round =>
          rename World => WA
          obtain ⟨k, hk, rfl, hI2, hbr2⟩ := hrel
          have HIA := Lib.hid hI2
          have HBA := Lib.hid hbr2
          clear hI2 hbr2 y1
          by_cases hkl : k < 54
          · have HKL := Lib.hid hkl
            go_wp2_with fail
            go_loopw [13, 50] (OwnRel WA 1 k) (fun _ m _ => 6 - (intOf m).toNat)
            case atStart => exact ⟨0, Nat.zero_le _, rfl, by simp, rfl⟩
            case round =>
              obtain ⟨q, hq, rfl, rfl, rfl⟩ := hrel
              have hq' : q ≤ 6 := hq
              clear hq
              by_cases hql : q < 6
              · have HQL := Lib.hid (show q + 1 ≤ (keepL 1).length from hql)
                obtain ⟨x, hx⟩ : ∃ x, (keepL 1)[q]? = some x := ⟨_, List.getElem?_eq_getElem (show q < (keepL 1).length from hql)⟩
                have hcell : WA.cell? ⟨w2.heap.size + 1, q, none⟩ = some (.int .i64 (x : Nat)) := ((HIA.out.keep 1 (by decide)).cellAt q (by show q < 6 * 1; omega)).trans (by simp [keepV, hx])
                have HNEW := Lib.hid (keep_step (k := k) hx)
                have hkb : w2.heap.size + 1 < WA.heap.size := ((HIA.out.keep 1 (by decide)).lt (w2.heap.size + 1) rfl).2
                clear hx
                generalize decide (k ∈ (keepL 1).take q) = own at *
                cases own with
                | true =>
                  go_wp2_with fail
                  go_roundw
                  case rel => exact ⟨q + 1, HQL.out, by go_num, by rw [HNEW.out]; simp, rfl⟩
                  case measure => simp [intOf]; have := HQL.out; omega
                | false =>
                  go_wp2_with fail
                  go_roundw
                  case rel => exact ⟨q + 1, HQL.out, by go_num, by rw [HNEW.out, Bool.false_or, ← cmp_nat], rfl⟩
                  case measure => simp [intOf]; have := HQL.out; omega
              · obtain rfl : q = 6 := by omega
                rw [show (keepL 1).take 6 = keepL 1 from rfl]
                by_cases hko : k ∈ keepL 1
                · rw [show decide (k ∈ keepL 1) = true from by simp [hko]]
                  go_wp2_with fail
                  go_roundw
                  case rel => exact ⟨k + 1, HKL.out, by go_num, HIA.out, HBA.out⟩
                  case measure => simp [intOf]; have := HKL.out; omega
                · rw [show decide (k ∈ keepL 1) = false from by simp [hko]]
                  have y1 := (HIA.out.row.cellAt 3 (by decide)).trans (show (encAll [P 0, P 1, P 2])[3]? = some (.slice (some ⟨x1, 0, none⟩) 54 (P 1).c) from by rw [← X1.out, ← N1.out]; rfl)
                  have hbw2 : b < WA.heap.size := (HIA.out.row.lt b rfl).2
                  obtain ⟨v, hv, hfv⟩ := HIA.out.cellAt (j := 1) (k := k) (by decide) X1.out (by rw [N1.out]; exact HKL.out)
                  have HST := Lib.hid (HIA.out.store HFAR.out (j := 1) (by decide) X1.out hko f hf)
                  clear hko
                  go_wp2_with fail
                  go_roundw
                  case rel => exact ⟨k + 1, HKL.out, by go_num, HST.out, HBA.out.setCell lx1 _⟩
                  case measure => simp [intOf]; have := HKL.out; omega
          · obtain rfl : k = 54 := by omega
            go_wp2_with fail
            go_roundw
            case rel => exact ⟨2, by decide, by go_num, HIA.out, HBA.out⟩
            case measure => simp [intOf]
      · have y1 := (HIW.out.row.cellAt 5 (by decide)).trans (show (encAll [P 0, P 1, P 2])[5]? = some (.slice (some ⟨x2, 0, none⟩) 36 (P 2).c) from by rw [← X2.out, ← N2.out]; rfl)
        have hbw : b < wr.heap.size := (HIW.out.row.lt b rfl).2
        go_wp2_with fail
        go_loopw [45] (IdleRel w1.heap.size b w2.heap.size P w1 36) (fun k _ => 36 - (intOf k).toNat)
        case atStart => exact ⟨0, Nat.zero_le _, rfl, HIW.out, HBR.out⟩
        case round =>
          rename World => WA
          obtain ⟨k, hk, rfl, hI2, hbr2⟩ := hrel
          have HIA := Lib.hid hI2
          have HBA := Lib.hid hbr2
          clear hI2 hbr2 y1
          by_cases hkl : k < 36
          · have HKL := Lib.hid hkl
            go_wp2_with fail
            go_loopw [13, 50] (OwnRel WA 2 k) (fun _ m _ => 2 - (intOf m).toNat)
            case atStart => exact ⟨0, Nat.zero_le _, rfl, by simp, rfl⟩
            case round =>
              obtain ⟨q, hq, rfl, rfl, rfl⟩ := hrel
              have hq' : q ≤ 2 := hq
              clear hq
              by_cases hql : q < 2
              · have HQL := Lib.hid (show q + 1 ≤ (keepL 2).length from hql)
                obtain ⟨x, hx⟩ : ∃ x, (keepL 2)[q]? = some x := ⟨_, List.getElem?_eq_getElem (show q < (keepL 2).length from hql)⟩
                have hcell : WA.cell? ⟨w2.heap.size + 1 + 1, q, none⟩ = some (.int .i64 (x : Nat)) := ((HIA.out.keep 2 (by decide)).cellAt q (by show q < 2 * 1; omega)).trans (by simp [keepV, hx])
                have HNEW := Lib.hid (keep_step (k := k) hx)
                have hkb : w2.heap.size + 1 + 1 < WA.heap.size := ((HIA.out.keep 2 (by decide)).lt (w2.heap.size + 1 + 1) rfl).2
                clear hx
                generalize decide (k ∈ (keepL 2).take q) = own at *
                cases own with
                | true =>
                  go_wp2_with fail
                  go_roundw
                  case rel => exact ⟨q + 1, HQL.out, by go_num, by rw [HNEW.out]; simp, rfl⟩
                  case measure => simp [intOf]; have := HQL.out; omega
                | false =>
                  go_wp2_with fail
                  go_roundw
                  case rel => exact ⟨q + 1, HQL.out, by go_num, by rw [HNEW.out, Bool.false_or, ← cmp_nat], rfl⟩
                  case measure => simp [intOf]; have := HQL.out; omega
              · obtain rfl : q = 2 := by omega
                rw [show (keepL 2).take 2 = keepL 2 from rfl]
                by_cases hko : k ∈ keepL 2
                · rw [show decide (k ∈ keepL 2) = true from by simp [hko]]
                  go_wp2_with fail
                  go_roundw
                  case rel => exact ⟨k + 1, HKL.out, by go_num, HIA.out, HBA.out⟩
                  case measure => simp [intOf]; have := HKL.out; omega
                · rw [show decide (k ∈ keepL 2) = false from by simp [hko]]
                  have y1 := (HIA.out.row.cellAt 5 (by decide)).trans (show (encAll [P 0, P 1, P 2])[5]? = some (.slice (some ⟨x2, 0, none⟩) 36 (P 2).c) from by rw [← X2.out, ← N2.out]; rfl)
                  have hbw2 : b < WA.heap.size := (HIA.out.row.lt b rfl).2
                  obtain ⟨v, hv, hfv⟩ := HIA.out.cellAt (j := 2) (k := k) (by decide) X2.out (by rw [N2.out]; exact HKL.out)
                  have HST := Lib.hid (HIA.out.store HFAR.out (j := 2) (by decide) X2.out hko f hf)
                  clear hko
                  go_wp2_with fail
                  go_roundw
                  case rel => exact ⟨k + 1, HKL.out, by go_num, HST.out, HBA.out.setCell lx2 _⟩
                  case measure => simp [intOf]; have := HKL.out; omega
          · obtain rfl : k = 36 := by omega
            go_wp2_with fail
            go_roundw
            case rel => exact ⟨3, by decide, by go_num, HIA.out, HBA.out⟩
            case measure => simp [intOf]
    · obtain rfl : i = 3 := by omega
      have HMM := Lib.hid (HM.out wr HIW.out)
      go_wp2_with fail
      refine HMM.out.mono ?_
      clear HMM HM
      rintro r vm ⟨am, nm, cm, F, rfl, hF, hFl, f1, f2, hP, hbm⟩
      have HR := Lib.hid (fread_yes am nm cm F g e 1 vm hF hFl f1 f2 hP (by omega))
      have HBM := Lib.hid (HBR.out.trans (hbm.mono (by have := HBR.out.size; omega)))
      have hzm := hbm.size
      clear hF hFl hP hbm
      go_wp2_with fail
      refine HR.out.mono ?_
      clear HR
      rintro r vr ⟨rfl, hbv⟩
      go_wp2
      go_ret
      exact ⟨rfl, HB1.out.trans ((HBM.out.trans ((show Below vm.heap.size vm _ from (by repeat (first | exact brefl _ | assumption | refine balloc ?_ _ | refine bdrew ?_ _ | refine bdrew1 ?_ | refine bthen ?_ (by assumption) | refine Below.trans ?_ (by assumption) | (refine bset ?_ (by first | (simp; done) | (simp; omega)) _)))).mono HBM.out.size)).mono h1z)⟩
end Go.Proofs.Ythacabmnnpibkaa
