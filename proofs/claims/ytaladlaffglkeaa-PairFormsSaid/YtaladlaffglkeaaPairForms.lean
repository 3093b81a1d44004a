
/- PairForms returns true for every grid and every two glyphs, and changes nothing: the same distances in each of the three forms are the same distances, there are none if there are too few. No condition beside the row's own. Written by tools/mkpairforms.py. -/
import Derived.Test.YtaladlaffglkeaaJ16
import Derived.Test.YtaladlaffglkeaaJ01
namespace Go.Proofs.Ytaladlaffglkeaa
open Go.RowKit Go.Lib

theorem maxB_le (l : List UInt8) : maxB l ≤ 255 := by
  rcases (maxB_from l 0).2.2 with h | ⟨x, _, h⟩
  · rw [maxB, h]; omega
  · rw [maxB, ← h]; have := x.toNat_lt; omega
set_option maxRecDepth 100000 in
set_option maxHeartbeats 12800000 in
theorem pairForms_walk (al : Option Addr) (nl cl : Nat) (lb : List UInt8) (ar : Option Addr) (nr cr : Nat) (rb : List UInt8) (ad : Option Addr) (nd cd : Nat) (ds : List Int) (k1 k2 : Nat) (w : World) (hl : Has w al (bytesV lb)) (hll : lb.length = nl) (hr : Has w ar (bytesV rb)) (hrl : rb.length = nr) (hd : Has w ad (ds.map (Value.int .i16))) (hdl : ds.length = nd) (hdb : ∀ x ∈ ds, -32768 ≤ x ∧ x ≤ 32767) (hk1 : k1 ≤ 255) (hk2 : k2 ≤ 255) :
    Calls Try.prog 5 #[.agg #[.slice al nl cl, .slice ar nr cr, .slice ad nd cd], .int .u8 (k1 : Nat), .int .u8 (k2 : Nat)] w fun e w' => e = .returned (.bool true) ∧ Below w.heap.size w w' := by
  have hAC := allocC
  have hAF := allocF
  have h1 := eqPtn
  have h2 := eqPte
  have h3 := eqPnn
  have h4 := eqPne
  have HSP := Lib.hid (fun W => speaks22_any W)
  have HHL := Lib.hid hl
  have HLL := Lib.hid hll
  have HHR := Lib.hid hr
  have HRL := Lib.hid hrl
  have HHD := Lib.hid hd
  have HDL := Lib.hid hdl
  have HDB := Lib.hid hdb
  clear hl hll hr hrl hd hdl hdb
  obtain ⟨A, hA⟩ : ∃ A, A = w.alloc (Obj.cells #[.slice al nl cl, .slice ar nr cr, .slice ad nd cd] 60) := ⟨_, rfl⟩
  have hbA : Below w.heap.size w A := by rw [hA]; exact balloc (brefl w) _
  have x3 : A.heap[w.heap.size]? = some (.cells #[.slice al nl cl, .slice ar nr cr, .slice ad nd cd] 60 (0, 0)) := by rw [hA]; exact (heap_push _ _ _).trans (if_pos rfl)
  have hzA := (Array.getElem?_eq_some_iff.1 x3).1
  have X3 := Lib.hid x3
  have HBA := Lib.hid hbA
  clear x3 hbA
  go_enter Try.func5, Try.ntmps5
  go_wp2_with fail
  rw [← hA]
  clear hA
  refine (HSP.out A).mono ?_
  rintro e w1 ⟨rfl, hb1⟩
  have HB1 := Lib.hid (HBA.out.trans (hb1.mono HBA.out.size))
  have Y3 := Lib.hid ((hb1.block _ hzA).trans X3.out)
  have q3 := fun o => cell_of_heap Y3.out o
  have m3 := (Array.getElem?_eq_some_iff.1 Y3.out).1
  clear hb1
  by_cases hbig : 20 < nl
  · have d1 : decide (20 < (nl : Int)) = true := by simp; omega
    go_wp2_with fail
    go_ret
    exact ⟨rfl, HB1.out⟩
  have d1 : decide (20 < (nl : Int)) = false := by simp; omega
  by_cases hbig2 : 20 < nr
  · have d2 : decide (20 < (nr : Int)) = true := by simp; omega
    go_wp2_with fail
    go_ret
    exact ⟨rfl, HB1.out⟩
  have d2 : decide (20 < (nr : Int)) = false := by simp; omega
  by_cases hbig3 : 600 < nd
  · have d3 : decide (600 < (nd : Int)) = true := by simp; omega
    go_wp2_with fail
    go_ret
    exact ⟨rfl, HB1.out⟩
  have d3 : decide (600 < (nd : Int)) = false := by simp; omega
  have HWK := Lib.hid (fun (K : Nat) (hK : K ≤ 2) (z : Int) (hz : z = (K : Nat)) (X : World) (hX : Below w.heap.size w X) => wgrid_any K hK z hz al nl cl lb ar nr cr rb ad nd cd ds X (HHL.out.below hX) HLL.out (by omega) (HHR.out.below hX) HRL.out (by omega) (HHD.out.below hX) HDL.out (by omega) HDB.out)
  have HGL := Lib.hid (fun K => gridB_le K lb rb ds (by rw [HLL.out]; omega) (by rw [HRL.out]; omega) (by rw [HDL.out]; omega))
  have HGO := Lib.hid (fun (K : Nat) (hK : K ≤ 2) kind hk r1 r2 => gridB_ok K hK kind hk lb rb ds (by rw [HLL.out]; omega) (by rw [HRL.out]; omega) r1 r2)
  have HGD := Lib.hid (fun (K : Nat) (hK : K ≤ 2) kind hk hm x y => gridB_dist K hK kind hk lb rb ds (by rw [HLL.out]; omega) (by rw [HRL.out]; omega) HDB.out hm x y)
  have HX1 := Lib.hid (give_le lb (k1 : Nat))
  have HY1 := Lib.hid (give_le rb (k2 : Nat))
  have wk1 : IntKind.i64.wrap (k1 : Int) = (k1 : Int) := IntWalk.i64_in _ (by omega)
  have wk2 : IntKind.i64.wrap (k2 : Int) = (k2 : Int) := IntWalk.i64_in _ (by omega)
  go_wp2_with fail
  go_loopw [9, 40] (fun m i wr => ∃ j : Nat, j ≤ nl ∧ i = .int .i64 (j : Nat) ∧ m = .int .i64 (maxB (lb.take j) : Nat) ∧ w1 = wr) (fun _ i _ => nl - (Go.RowKit.intOf i).toNat)
  case atStart => exact ⟨0, Nat.zero_le _, rfl, rfl, rfl⟩
  case round =>
    obtain ⟨j, hj, rfl, rfl, rfl⟩ := hrel
    by_cases hlt : j < nl
    · obtain ⟨x, hx⟩ : ∃ x, lb[j]? = some x := ⟨_, List.getElem?_eq_getElem (by rw [HLL.out]; exact hlt)⟩
      obtain ⟨g, o, rfl, hg, hci⟩ := (HHL.out.below HB1.out).get (by rw [bytesV_length, HLL.out]; omega)
      have c0 := hci j (.int .u8 (x.toNat : Nat)) (by simp [bytesV, hx])
      have HM := Lib.hid (maxB_snoc lb j x hx)
      have bx := x.toNat_lt
      generalize x.toNat = y at *
      generalize maxB (lb.take j) = m at *
      have wy : IntKind.i64.wrap (y : Int) = (y : Int) := IntWalk.i64_in _ (by omega)
      clear hx hci
      by_cases hmy : m < y
      · have dm : decide ((m : Int) < (y : Int)) = true := by simp; omega
        have hmi : (m : Int) < (y : Int) := by omega
        go_wp2_with fail
        go_roundw
        case rel => exact ⟨j + 1, hlt, by go_num, by rw [HM.out]; congr 1; omega, trivial⟩
        case measure => simp [Go.RowKit.intOf]; omega
      · have dm : decide ((m : Int) < (y : Int)) = false := by simp; omega
        have hmi : ¬ (m : Int) < (y : Int) := by omega
        go_wp2_with fail
        go_roundw
        case rel => exact ⟨j + 1, hlt, by go_num, by rw [HM.out]; congr 1; omega, trivial⟩
        case measure => simp [Go.RowKit.intOf]; omega
    obtain rfl : nl = j := by omega
    rw [List.take_of_length_le (by rw [HLL.out]; exact Nat.le_refl _)]
    go_wp2_with fail
    go_loopw [10, 52] (fun m i wr => ∃ j : Nat, j ≤ nr ∧ i = .int .i64 (j : Nat) ∧ m = .int .i64 (maxB (rb.take j) : Nat) ∧ w1 = wr) (fun _ i _ => nr - (Go.RowKit.intOf i).toNat)
    case atStart => exact ⟨0, Nat.zero_le _, rfl, rfl, rfl⟩
    case round =>
      obtain ⟨j, hj, rfl, rfl, rfl⟩ := hrel
      by_cases hlt : j < nr
      · obtain ⟨x, hx⟩ : ∃ x, rb[j]? = some x := ⟨_, List.getElem?_eq_getElem (by rw [HRL.out]; exact hlt)⟩
        obtain ⟨g, o, rfl, hg, hci⟩ := (HHR.out.below HB1.out).get (by rw [bytesV_length, HRL.out]; omega)
        have c0 := hci j (.int .u8 (x.toNat : Nat)) (by simp [bytesV, hx])
        have HM := Lib.hid (maxB_snoc rb j x hx)
        have bx := x.toNat_lt
        generalize x.toNat = y at *
        generalize maxB (rb.take j) = m at *
        have wy : IntKind.i64.wrap (y : Int) = (y : Int) := IntWalk.i64_in _ (by omega)
        clear hx hci
        by_cases hmy : m < y
        · have dm : decide ((m : Int) < (y : Int)) = true := by simp; omega
          have hmi : (m : Int) < (y : Int) := by omega
          go_wp2_with fail
          go_roundw
          case rel => exact ⟨j + 1, hlt, by go_num, by rw [HM.out]; congr 1; omega, trivial⟩
          case measure => simp [Go.RowKit.intOf]; omega
        · have dm : decide ((m : Int) < (y : Int)) = false := by simp; omega
          have hmi : ¬ (m : Int) < (y : Int) := by omega
          go_wp2_with fail
          go_roundw
          case rel => exact ⟨j + 1, hlt, by go_num, by rw [HM.out]; congr 1; omega, trivial⟩
          case measure => simp [Go.RowKit.intOf]; omega
      obtain rfl : nr = j := by omega
      rw [List.take_of_length_le (by rw [HRL.out]; exact Nat.le_refl _)]
      have wM : IntKind.i64.wrap (((maxB lb : Nat) : Int) + ((maxB rb : Nat) : Int)) = ((maxB lb : Nat) : Int) + ((maxB rb : Nat) : Int) := by have := maxB_le lb; have := maxB_le rb; exact IntWalk.i64_in _ (by omega)
      by_cases hkx : k1 < nl
      · have dx : decide ((k1 : Int) < (nl : Int)) = true := by simp; omega
        obtain ⟨x, hx⟩ : ∃ x, lb[k1]? = some x := ⟨_, List.getElem?_eq_getElem (by rw [HLL.out]; exact hkx)⟩
        obtain ⟨gx, ox, rfl, hgx, hcx⟩ := (HHL.out.below HB1.out).get (by rw [bytesV_length, HLL.out]; omega)
        have cx := hcx k1 (.int .u8 (x.toNat : Nat)) (by simp [bytesV, hx])
        have HXV := Lib.hid (show (give22 1 lb (k1 : Nat)).1 = x.toNat from by unfold give22; rw [if_pos (by rw [HLL.out]; omega), Int.toNat_natCast, List.getD_eq_getElem?_getD, hx]; simp)
        have bx := x.toNat_lt
        generalize x.toNat = X at *
        have wX : IntKind.i64.wrap (X : Int) = (X : Int) := IntWalk.i64_in _ (by omega)
        clear hx hcx
        by_cases hky : k2 < nr
        · have dy : decide ((k2 : Int) < (nr : Int)) = true := by simp; omega
          obtain ⟨y, hy⟩ : ∃ y, rb[k2]? = some y := ⟨_, List.getElem?_eq_getElem (by rw [HRL.out]; exact hky)⟩
          obtain ⟨gy, oy, rfl, hgy, hcy⟩ := (HHR.out.below HB1.out).get (by rw [bytesV_length, HRL.out]; omega)
          have cy := hcy k2 (.int .u8 (y.toNat : Nat)) (by simp [bytesV, hy])
          have HYV := Lib.hid (show (give22 1 rb (k2 : Nat)).1 = y.toNat from by unfold give22; rw [if_pos (by rw [HRL.out]; omega), Int.toNat_natCast, List.getD_eq_getElem?_getD, hy]; simp)
          have byy := y.toNat_lt
          generalize y.toNat = Y at *
          have wY : IntKind.i64.wrap (Y : Int) = (Y : Int) := IntWalk.i64_in _ (by omega)
          clear hy hcy
          go_wp2_with fail
          go_loopw [85] (fun i wr => ∃ j : Nat, j ≤ 3 ∧ i = .int .i64 (j : Nat) ∧ Below w1.heap.size w1 wr) (fun i _ => (3 - Go.RowKit.intOf i).toNat)
          case atStart => exact ⟨0, by decide, rfl, brefl _⟩
          case round =>
            obtain ⟨j, hj, rfl, hb⟩ := hrel
            rename World => wr
            have HB := Lib.hid hb
            have R3 := Lib.hid ((hb.block _ m3).trans Y3.out)
            have q3 := fun o => cell_of_heap R3.out o
            have n3 := (Array.getElem?_eq_some_iff.1 R3.out).1
            clear hb
            by_cases hlt : j < 3
            · have hj3 : j = 0 ∨ j = 1 ∨ j = 2 := by omega
              rcases hj3 with rfl | rfl | rfl
              · go_wp2_with fail
                refine (HWK.out 0 (by decide) 0 rfl wr (HB1.out.trans (HB.out.mono HB1.out.size))).mono ?_
                rintro e w2 ⟨v, rfl, ⟨a9, c9, rfl, ho9, _, _, _⟩, hb2⟩
                have HB2 := Lib.hid (HB.out.trans (hb2.mono HB.out.size))
                have HRD := Lib.hid (pread_any 2 a9 _ c9 (gridB 0 lb rb ds) 300 w2 (has_of_owns ho9) rfl (by have := HGL.out 0; omega))
                clear ho9 hb2
                go_wp2_with fail
                refine HRD.out.mono ?_
                rintro e w3 ⟨hres, hb3⟩
                have HB3 := Lib.hid (HB2.out.trans (hb3.mono HB2.out.size))
                have V3 := Lib.hid ((HB3.out.block _ m3).trans Y3.out)
                have q3 := fun o => cell_of_heap V3.out o
                have o3 := (Array.getElem?_eq_some_iff.1 V3.out).1
                clear hb3 HRD
                by_cases hM : maxB lb + maxB rb < nd
                · have dM : decide ((nd : Int) ≤ ((maxB lb : Nat) : Int) + ((maxB rb : Nat) : Int)) = false := by simp; omega
                  obtain ⟨hbad, _⟩ | ⟨_, hno, _⟩ | ⟨_, r1, r2, g, hok, rfl, hp⟩ := hres
                  · exfalso
                    unfold badP at hbad
                    omega
                  · exact absurd ((HGO.out 0 (by decide) 2 rfl _ _).2 ⟨rfl, rfl, by rw [HDL.out]; exact hM⟩) (hno _ _)
                  · have hr12 := (HGO.out 0 (by decide) 2 rfl _ _).1 hok
                    obtain ⟨rfl, rfl, _⟩ := hr12
                    have HGU := Lib.hid (fun (U : World) (hU : Below w3.heap.size w3 U) => pget_any _ _ g _ _ 300 _ _ (k1 : Nat) (k2 : Nat) U (hp.below hU) hok (by decide) (by omega) (by omega))
                    rw [HGD.out 0 (by decide) 2 rfl (by rw [HDL.out]; exact hM) (k1 : Nat) (k2 : Nat), HXV.out, HYV.out] at HGU
                    have hS : X + Y < nd := by have := HX1.out; have := HY1.out; rw [HXV.out] at *; rw [HYV.out] at *; omega
                    obtain ⟨z, hz⟩ : ∃ z, ds[X + Y]? = some z := ⟨_, List.getElem?_eq_getElem (by rw [HDL.out]; exact hS)⟩
                    have hzb := HDB.out z (List.mem_of_getElem? hz)
                    obtain ⟨gd, od, rfl, hgd, hcd⟩ := (HHD.out.below (HB1.out.trans (HB3.out.mono HB1.out.size))).get (by rw [List.length_map, HDL.out]; omega)
                    have cz := hcd (X + Y) (.int .i16 z) (by simp [hz])
                    rw [show ds.getD (X + Y) 0 = z from by rw [List.getD_eq_getElem?_getD, show X + Y = X + Y by omega, hz]; rfl] at HGU
                    have wS : IntKind.i64.wrap ((X : Int) + (Y : Int)) = (X : Int) + (Y : Int) := IntWalk.i64_in _ (by omega)
                    have wz : IntKind.i64.wrap z = z := IntWalk.i64_in _ (by omega)
                    clear hz hcd hp hok
                    go_wp2_with fail
                    refine wp_region_tree (.step 0 (.step 1 (.step 2 (.step 3 (.step 4 (.step 5 (.step 6 (.step 7 (.step 8 (.step 9 (.step 10 (.step 11 (.step 13 (.step 14 (.step 15 (.step 16 (.step 17 (.step 18 (.step 19 (.step 20 (.step 12 (.step 21 (.step 22 .nil))))))))))))))))))))))) (by kernel_rfl) (by kernel_rfl) (by kernel_rfl) (by kernel_rfl) (by intro _ _ d_ _ _ h_; cases d_ <;> first | exact h_ | (dsimp +zetaDelta only at h_ ⊢; exact h_)) (fun w' => ∃ p : Wld w3 [], w' = p.val) (wld_start _ _) ?_
                    have hG_ := @wldC w3
                    (refine tree_quiet gtA (by rfl) (by rfl) (fun K_ hK_ => ?_); go_big_quiet_op; refine hK_ _ ?_; clear hK_ K_)
                    (refine tree_quiet gtA (by rfl) (by rfl) (fun K_ hK_ => ?_); go_big_quiet_op; refine hK_ _ ?_; clear hK_ K_)
                    (refine tree_quiet gtA (by rfl) (by rfl) (fun K_ hK_ => ?_); go_big_quiet_op; refine hK_ _ ?_; clear hK_ K_)
                    (refine tree_quiet gtA (by rfl) (by rfl) (fun K_ hK_ => ?_); go_big_quiet_op; refine hK_ _ ?_; clear hK_ K_)
                    (refine tree_quiet gtA (by rfl) (by rfl) (fun K_ hK_ => ?_); go_big_quiet_op; refine hK_ _ ?_; clear hK_ K_)
                    (refine tree_quiet gtA (by rfl) (by rfl) (fun K_ hK_ => ?_); go_big_quiet_op; refine hK_ _ ?_; clear hK_ K_)
                    (refine tree_quiet gtA (by rfl) (by rfl) (fun K_ hK_ => ?_); go_big_quiet_op; refine hK_ _ ?_; clear hK_ K_)
                    (refine tree_quiet gtA (by rfl) (by rfl) (fun K_ hK_ => ?_); go_big_quiet_op; refine hK_ _ ?_; clear hK_ K_)
                    (refine tree_quiet gtA (by rfl) (by rfl) (fun K_ hK_ => ?_); go_big_quiet_op; refine hK_ _ ?_; clear hK_ K_)
                    (refine tree_quiet gtA (by rfl) (by rfl) (fun K_ hK_ => ?_); go_big_quiet_op; refine hK_ _ ?_; clear hK_ K_)
                    (refine tree_quiet gtA (by rfl) (by rfl) (fun K_ hK_ => ?_); go_big_quiet_op; refine hK_ _ ?_; clear hK_ K_)
                    (refine tree_quiet gtA (by rfl) (by rfl) (fun K_ hK_ => ?_); go_big_quiet_op; refine hK_ _ ?_; clear hK_ K_)
                    (refine tree_quiet gtA (by rfl) (by rfl) (fun K_ hK_ => ?_); go_big_quiet_op; refine hK_ _ ?_; clear hK_ K_)
                    (refine tree_quiet gtA (by rfl) (by rfl) (fun K_ hK_ => ?_); go_big_quiet_op; refine hK_ _ ?_; clear hK_ K_)
                    (refine tree_quiet gtA (by rfl) (by rfl) (fun K_ hK_ => ?_); go_big_quiet_op; refine hK_ _ ?_; clear hK_ K_)
                    (refine tree_quiet gtA (by rfl) (by rfl) (fun K_ hK_ => ?_); go_big_quiet_op; refine hK_ _ ?_; clear hK_ K_)
                    (refine tree_quiet gtA (by rfl) (by rfl) (fun K_ hK_ => ?_); go_big_quiet_op; refine hK_ _ ?_; clear hK_ K_)
                    (refine tree_quiet gtA (by rfl) (by rfl) (fun K_ hK_ => ?_); go_big_quiet_op; refine hK_ _ ?_; clear hK_ K_)
                    (refine tree_quiet gtA (by rfl) (by rfl) (fun K_ hK_ => ?_); go_big_quiet_op; refine hK_ _ ?_; clear hK_ K_)
                    (refine tree_quiet gtA (by rfl) (by rfl) (fun K_ hK_ => ?_); go_big_quiet_op; refine hK_ _ ?_; clear hK_ K_)
                    (refine tree_run gtA (by rfl) (by rfl) (fun K_ hK_ => ?_); have HK_ := Lib.hid hK_; clear hK_; go_wp2_with ((go_at_call 26; (with_reducible refine (HGU.out _ (by exact blw)).mono ?_); rintro e w5 ⟨rfl, hb5⟩; have h5c := bc hb5; have h5f := bf hb5; have h5z := hb5.size; try simp only [World.size_alloc, World.size_drew] at h5z)); refine HK_.out _ _ (wld_ofA) ?_; clear HK_)
                    (refine tree_quiet gtA (by rfl) (by rfl) (fun K_ hK_ => ?_); go_big_quiet_op; refine hK_ _ ?_; clear hK_ K_)
                    (refine tree_quiet gtA (by rfl) (by rfl) (fun K_ hK_ => ?_); go_big_quiet_op; refine hK_ _ ?_; clear hK_ K_)
                    refine tree_nil ?_
                    clear hG_
                    have hb5u : Below w3.heap.size w3 w5 := by exact blw
                    have HB5 := Lib.hid (HB3.out.trans (hb5u.mono HB3.out.size))
                    clear hb5u
                    go_wp2_with fail
                    go_roundw
                    case rel => exact ⟨0 + 1, by decide, by first | rfl | go_num, HB5.out⟩
                    case measure => simp [Go.RowKit.intOf]
                · have dM : decide ((nd : Int) ≤ ((maxB lb : Nat) : Int) + ((maxB rb : Nat) : Int)) = true := by simp; omega
                  obtain ⟨hbad, _⟩ | ⟨_, hno, rfl⟩ | ⟨_, r1, r2, g, hok, _, hp⟩ := hres
                  · exfalso
                    unfold badP at hbad
                    omega
                  · clear hno
                    go_wp2_with fail
                    go_roundw
                    case rel => exact ⟨0 + 1, by decide, by first | rfl | go_num, HB3.out⟩
                    case measure => simp [Go.RowKit.intOf]
                  · exact absurd ((HGO.out 0 (by decide) 2 rfl _ _).1 hok).2.2 (by rw [HDL.out]; exact hM)
              · go_wp2_with fail
                refine (HWK.out 1 (by decide) 1 rfl wr (HB1.out.trans (HB.out.mono HB1.out.size))).mono ?_
                rintro e w2 ⟨v, rfl, ⟨a9, c9, rfl, ho9, _, _, _⟩, hb2⟩
                have HB2 := Lib.hid (HB.out.trans (hb2.mono HB.out.size))
                have HRD := Lib.hid (pread_any 6 a9 _ c9 (gridB 1 lb rb ds) 300 w2 (has_of_owns ho9) rfl (by have := HGL.out 1; omega))
                clear ho9 hb2
                go_wp2_with fail
                refine HRD.out.mono ?_
                rintro e w3 ⟨hres, hb3⟩
                have HB3 := Lib.hid (HB2.out.trans (hb3.mono HB2.out.size))
                have V3 := Lib.hid ((HB3.out.block _ m3).trans Y3.out)
                have q3 := fun o => cell_of_heap V3.out o
                have o3 := (Array.getElem?_eq_some_iff.1 V3.out).1
                clear hb3 HRD
                by_cases hM : maxB lb + maxB rb < nd
                · have dM : decide ((nd : Int) ≤ ((maxB lb : Nat) : Int) + ((maxB rb : Nat) : Int)) = false := by simp; omega
                  obtain ⟨hbad, _⟩ | ⟨_, hno, _⟩ | ⟨_, r1, r2, g, hok, rfl, hp⟩ := hres
                  · exfalso
                    unfold badP at hbad
                    omega
                  · exact absurd ((HGO.out 1 (by decide) 6 rfl _ _).2 ⟨rfl, rfl, by rw [HDL.out]; exact hM⟩) (hno _ _)
                  · have hr12 := (HGO.out 1 (by decide) 6 rfl _ _).1 hok
                    obtain ⟨rfl, rfl, _⟩ := hr12
                    have HGU := Lib.hid (fun (U : World) (hU : Below w3.heap.size w3 U) => pget_any _ _ g _ _ 300 _ _ (k1 : Nat) (k2 : Nat) U (hp.below hU) hok (by decide) (by omega) (by omega))
                    rw [HGD.out 1 (by decide) 6 rfl (by rw [HDL.out]; exact hM) (k1 : Nat) (k2 : Nat), HXV.out, HYV.out] at HGU
                    have hS : X + Y < nd := by have := HX1.out; have := HY1.out; rw [HXV.out] at *; rw [HYV.out] at *; omega
                    obtain ⟨z, hz⟩ : ∃ z, ds[X + Y]? = some z := ⟨_, List.getElem?_eq_getElem (by rw [HDL.out]; exact hS)⟩
                    have hzb := HDB.out z (List.mem_of_getElem? hz)
                    obtain ⟨gd, od, rfl, hgd, hcd⟩ := (HHD.out.below (HB1.out.trans (HB3.out.mono HB1.out.size))).get (by rw [List.length_map, HDL.out]; omega)
                    have cz := hcd (X + Y) (.int .i16 z) (by simp [hz])
                    rw [show ds.getD (X + Y) 0 = z from by rw [List.getD_eq_getElem?_getD, show X + Y = X + Y by omega, hz]; rfl] at HGU
                    have wS : IntKind.i64.wrap ((X : Int) + (Y : Int)) = (X : Int) + (Y : Int) := IntWalk.i64_in _ (by omega)
                    have wz : IntKind.i64.wrap z = z := IntWalk.i64_in _ (by omega)
                    clear hz hcd hp hok
                    go_wp2_with fail
                    refine wp_region_tree (.step 0 (.step 1 (.step 2 (.step 3 (.step 4 (.step 5 (.step 6 (.step 7 (.step 8 (.step 9 (.step 10 (.step 11 (.step 13 (.step 14 (.step 15 (.step 16 (.step 17 (.step 18 (.step 19 (.step 20 (.step 12 (.step 21 (.step 22 .nil))))))))))))))))))))))) (by kernel_rfl) (by kernel_rfl) (by kernel_rfl) (by kernel_rfl) (by intro _ _ d_ _ _ h_; cases d_ <;> first | exact h_ | (dsimp +zetaDelta only at h_ ⊢; exact h_)) (fun w' => ∃ p : Wld w3 [], w' = p.val) (wld_start _ _) ?_
                    have hG_ := @wldC w3
                    (refine tree_quiet gtA (by rfl) (by rfl) (fun K_ hK_ => ?_); go_big_quiet_op; refine hK_ _ ?_; clear hK_ K_)
                    (refine tree_quiet gtA (by rfl) (by rfl) (fun K_ hK_ => ?_); go_big_quiet_op; refine hK_ _ ?_; clear hK_ K_)
                    (refine tree_quiet gtA (by rfl) (by rfl) (fun K_ hK_ => ?_); go_big_quiet_op; refine hK_ _ ?_; clear hK_ K_)
                    (refine tree_quiet gtA (by rfl) (by rfl) (fun K_ hK_ => ?_); go_big_quiet_op; refine hK_ _ ?_; clear hK_ K_)
                    (refine tree_quiet gtA (by rfl) (by rfl) (fun K_ hK_ => ?_); go_big_quiet_op; refine hK_ _ ?_; clear hK_ K_)
                    (refine tree_quiet gtA (by rfl) (by rfl) (fun K_ hK_ => ?_); go_big_quiet_op; refine hK_ _ ?_; clear hK_ K_)
                    (refine tree_quiet gtA (by rfl) (by rfl) (fun K_ hK_ => ?_); go_big_quiet_op; refine hK_ _ ?_; clear hK_ K_)
                    (refine tree_quiet gtA (by rfl) (by rfl) (fun K_ hK_ => ?_); go_big_quiet_op; refine hK_ _ ?_; clear hK_ K_)
                    (refine tree_quiet gtA (by rfl) (by rfl) (fun K_ hK_ => ?_); go_big_quiet_op; refine hK_ _ ?_; clear hK_ K_)
                    (refine tree_quiet gtA (by rfl) (by rfl) (fun K_ hK_ => ?_); go_big_quiet_op; refine hK_ _ ?_; clear hK_ K_)
                    (refine tree_quiet gtA (by rfl) (by rfl) (fun K_ hK_ => ?_); go_big_quiet_op; refine hK_ _ ?_; clear hK_ K_)
                    (refine tree_quiet gtA (by rfl) (by rfl) (fun K_ hK_ => ?_); go_big_quiet_op; refine hK_ _ ?_; clear hK_ K_)
                    (refine tree_quiet gtA (by rfl) (by rfl) (fun K_ hK_ => ?_); go_big_quiet_op; refine hK_ _ ?_; clear hK_ K_)
                    (refine tree_quiet gtA (by rfl) (by rfl) (fun K_ hK_ => ?_); go_big_quiet_op; refine hK_ _ ?_; clear hK_ K_)
                    (refine tree_quiet gtA (by rfl) (by rfl) (fun K_ hK_ => ?_); go_big_quiet_op; refine hK_ _ ?_; clear hK_ K_)
                    (refine tree_quiet gtA (by rfl) (by rfl) (fun K_ hK_ => ?_); go_big_quiet_op; refine hK_ _ ?_; clear hK_ K_)
                    (refine tree_quiet gtA (by rfl) (by rfl) (fun K_ hK_ => ?_); go_big_quiet_op; refine hK_ _ ?_; clear hK_ K_)
                    (refine tree_quiet gtA (by rfl) (by rfl) (fun K_ hK_ => ?_); go_big_quiet_op; refine hK_ _ ?_; clear hK_ K_)
                    (refine tree_quiet gtA (by rfl) (by rfl) (fun K_ hK_ => ?_); go_big_quiet_op; refine hK_ _ ?_; clear hK_ K_)
                    (refine tree_quiet gtA (by rfl) (by rfl) (fun K_ hK_ => ?_); go_big_quiet_op; refine hK_ _ ?_; clear hK_ K_)
                    (refine tree_run gtA (by rfl) (by rfl) (fun K_ hK_ => ?_); have HK_ := Lib.hid hK_; clear hK_; go_wp2_with ((go_at_call 26; (with_reducible refine (HGU.out _ (by exact blw)).mono ?_); rintro e w5 ⟨rfl, hb5⟩; have h5c := bc hb5; have h5f := bf hb5; have h5z := hb5.size; try simp only [World.size_alloc, World.size_drew] at h5z)); refine HK_.out _ _ (wld_ofA) ?_; clear HK_)
                    (refine tree_quiet gtA (by rfl) (by rfl) (fun K_ hK_ => ?_); go_big_quiet_op; refine hK_ _ ?_; clear hK_ K_)
                    (refine tree_quiet gtA (by rfl) (by rfl) (fun K_ hK_ => ?_); go_big_quiet_op; refine hK_ _ ?_; clear hK_ K_)
                    refine tree_nil ?_
                    clear hG_
                    have hb5u : Below w3.heap.size w3 w5 := by exact blw
                    have HB5 := Lib.hid (HB3.out.trans (hb5u.mono HB3.out.size))
                    clear hb5u
                    go_wp2_with fail
                    go_roundw
                    case rel => exact ⟨1 + 1, by decide, by first | rfl | go_num, HB5.out⟩
                    case measure => simp [Go.RowKit.intOf]
                · have dM : decide ((nd : Int) ≤ ((maxB lb : Nat) : Int) + ((maxB rb : Nat) : Int)) = true := by simp; omega
                  obtain ⟨hbad, _⟩ | ⟨_, hno, rfl⟩ | ⟨_, r1, r2, g, hok, _, hp⟩ := hres
                  · exfalso
                    unfold badP at hbad
                    omega
                  · clear hno
                    go_wp2_with fail
                    go_roundw
                    case rel => exact ⟨1 + 1, by decide, by first | rfl | go_num, HB3.out⟩
                    case measure => simp [Go.RowKit.intOf]
                  · exact absurd ((HGO.out 1 (by decide) 6 rfl _ _).1 hok).2.2 (by rw [HDL.out]; exact hM)
              · go_wp2_with fail
                refine (HWK.out 2 (by decide) 2 rfl wr (HB1.out.trans (HB.out.mono HB1.out.size))).mono ?_
                rintro e w2 ⟨v, rfl, ⟨a9, c9, rfl, ho9, _, _, _⟩, hb2⟩
                have HB2 := Lib.hid (HB.out.trans (hb2.mono HB.out.size))
                have HRD := Lib.hid (pread_any 6 a9 _ c9 (gridB 2 lb rb ds) 300 w2 (has_of_owns ho9) rfl (by have := HGL.out 2; omega))
                clear ho9 hb2
                go_wp2_with fail
                refine HRD.out.mono ?_
                rintro e w3 ⟨hres, hb3⟩
                have HB3 := Lib.hid (HB2.out.trans (hb3.mono HB2.out.size))
                have V3 := Lib.hid ((HB3.out.block _ m3).trans Y3.out)
                have q3 := fun o => cell_of_heap V3.out o
                have o3 := (Array.getElem?_eq_some_iff.1 V3.out).1
                clear hb3 HRD
                by_cases hM : maxB lb + maxB rb < nd
                · have dM : decide ((nd : Int) ≤ ((maxB lb : Nat) : Int) + ((maxB rb : Nat) : Int)) = false := by simp; omega
                  obtain ⟨hbad, _⟩ | ⟨_, hno, _⟩ | ⟨_, r1, r2, g, hok, rfl, hp⟩ := hres
                  · exfalso
                    unfold badP at hbad
                    omega
                  · exact absurd ((HGO.out 2 (by decide) 6 rfl _ _).2 ⟨rfl, rfl, by rw [HDL.out]; exact hM⟩) (hno _ _)
                  · have hr12 := (HGO.out 2 (by decide) 6 rfl _ _).1 hok
                    obtain ⟨rfl, rfl, _⟩ := hr12
                    have HGU := Lib.hid (fun (U : World) (hU : Below w3.heap.size w3 U) => pget_any _ _ g _ _ 300 _ _ (k1 : Nat) (k2 : Nat) U (hp.below hU) hok (by decide) (by omega) (by omega))
                    rw [HGD.out 2 (by decide) 6 rfl (by rw [HDL.out]; exact hM) (k1 : Nat) (k2 : Nat), HXV.out, HYV.out] at HGU
                    have hS : X + Y < nd := by have := HX1.out; have := HY1.out; rw [HXV.out] at *; rw [HYV.out] at *; omega
                    obtain ⟨z, hz⟩ : ∃ z, ds[X + Y]? = some z := ⟨_, List.getElem?_eq_getElem (by rw [HDL.out]; exact hS)⟩
                    have hzb := HDB.out z (List.mem_of_getElem? hz)
                    obtain ⟨gd, od, rfl, hgd, hcd⟩ := (HHD.out.below (HB1.out.trans (HB3.out.mono HB1.out.size))).get (by rw [List.length_map, HDL.out]; omega)
                    have cz := hcd (X + Y) (.int .i16 z) (by simp [hz])
                    rw [show ds.getD (X + Y) 0 = z from by rw [List.getD_eq_getElem?_getD, show X + Y = X + Y by omega, hz]; rfl] at HGU
                    have wS : IntKind.i64.wrap ((X : Int) + (Y : Int)) = (X : Int) + (Y : Int) := IntWalk.i64_in _ (by omega)
                    have wz : IntKind.i64.wrap z = z := IntWalk.i64_in _ (by omega)
                    clear hz hcd hp hok
                    go_wp2_with fail
                    refine wp_region_tree (.step 0 (.step 1 (.step 2 (.step 3 (.step 4 (.step 5 (.step 6 (.step 7 (.step 8 (.step 9 (.step 10 (.step 11 (.step 13 (.step 14 (.step 15 (.step 16 (.step 17 (.step 18 (.step 19 (.step 20 (.step 12 (.step 21 (.step 22 .nil))))))))))))))))))))))) (by kernel_rfl) (by kernel_rfl) (by kernel_rfl) (by kernel_rfl) (by intro _ _ d_ _ _ h_; cases d_ <;> first | exact h_ | (dsimp +zetaDelta only at h_ ⊢; exact h_)) (fun w' => ∃ p : Wld w3 [], w' = p.val) (wld_start _ _) ?_
                    have hG_ := @wldC w3
                    (refine tree_quiet gtA (by rfl) (by rfl) (fun K_ hK_ => ?_); go_big_quiet_op; refine hK_ _ ?_; clear hK_ K_)
                    (refine tree_quiet gtA (by rfl) (by rfl) (fun K_ hK_ => ?_); go_big_quiet_op; refine hK_ _ ?_; clear hK_ K_)
                    (refine tree_quiet gtA (by rfl) (by rfl) (fun K_ hK_ => ?_); go_big_quiet_op; refine hK_ _ ?_; clear hK_ K_)
                    (refine tree_quiet gtA (by rfl) (by rfl) (fun K_ hK_ => ?_); go_big_quiet_op; refine hK_ _ ?_; clear hK_ K_)
                    (refine tree_quiet gtA (by rfl) (by rfl) (fun K_ hK_ => ?_); go_big_quiet_op; refine hK_ _ ?_; clear hK_ K_)
                    (refine tree_quiet gtA (by rfl) (by rfl) (fun K_ hK_ => ?_); go_big_quiet_op; refine hK_ _ ?_; clear hK_ K_)
                    (refine tree_quiet gtA (by rfl) (by rfl) (fun K_ hK_ => ?_); go_big_quiet_op; refine hK_ _ ?_; clear hK_ K_)
                    (refine tree_quiet gtA (by rfl) (by rfl) (fun K_ hK_ => ?_); go_big_quiet_op; refine hK_ _ ?_; clear hK_ K_)
                    (refine tree_quiet gtA (by rfl) (by rfl) (fun K_ hK_ => ?_); go_big_quiet_op; refine hK_ _ ?_; clear hK_ K_)
                    (refine tree_quiet gtA (by rfl) (by rfl) (fun K_ hK_ => ?_); go_big_quiet_op; refine hK_ _ ?_; clear hK_ K_)
                    (refine tree_quiet gtA (by rfl) (by rfl) (fun K_ hK_ => ?_); go_big_quiet_op; refine hK_ _ ?_; clear hK_ K_)
                    (refine tree_quiet gtA (by rfl) (by rfl) (fun K_ hK_ => ?_); go_big_quiet_op; refine hK_ _ ?_; clear hK_ K_)
                    (refine tree_quiet gtA (by rfl) (by rfl) (fun K_ hK_ => ?_); go_big_quiet_op; refine hK_ _ ?_; clear hK_ K_)
                    (refine tree_quiet gtA (by rfl) (by rfl) (fun K_ hK_ => ?_); go_big_quiet_op; refine hK_ _ ?_; clear hK_ K_)
                    (refine tree_quiet gtA (by rfl) (by rfl) (fun K_ hK_ => ?_); go_big_quiet_op; refine hK_ _ ?_; clear hK_ K_)
                    (refine tree_quiet gtA (by rfl) (by rfl) (fun K_ hK_ => ?_); go_big_quiet_op; refine hK_ _ ?_; clear hK_ K_)
                    (refine tree_quiet gtA (by rfl) (by rfl) (fun K_ hK_ => ?_); go_big_quiet_op; refine hK_ _ ?_; clear hK_ K_)
                    (refine tree_quiet gtA (by rfl) (by rfl) (fun K_ hK_ => ?_); go_big_quiet_op; refine hK_ _ ?_; clear hK_ K_)
                    (refine tree_quiet gtA (by rfl) (by rfl) (fun K_ hK_ => ?_); go_big_quiet_op; refine hK_ _ ?_; clear hK_ K_)
                    (refine tree_quiet gtA (by rfl) (by rfl) (fun K_ hK_ => ?_); go_big_quiet_op; refine hK_ _ ?_; clear hK_ K_)
                    (refine tree_run gtA (by rfl) (by rfl) (fun K_ hK_ => ?_); have HK_ := Lib.hid hK_; clear hK_; go_wp2_with ((go_at_call 26; (with_reducible refine (HGU.out _ (by exact blw)).mono ?_); rintro e w5 ⟨rfl, hb5⟩; have h5c := bc hb5; have h5f := bf hb5; have h5z := hb5.size; try simp only [World.size_alloc, World.size_drew] at h5z)); refine HK_.out _ _ (wld_ofA) ?_; clear HK_)
                    (refine tree_quiet gtA (by rfl) (by rfl) (fun K_ hK_ => ?_); go_big_quiet_op; refine hK_ _ ?_; clear hK_ K_)
                    (refine tree_quiet gtA (by rfl) (by rfl) (fun K_ hK_ => ?_); go_big_quiet_op; refine hK_ _ ?_; clear hK_ K_)
                    refine tree_nil ?_
                    clear hG_
                    have hb5u : Below w3.heap.size w3 w5 := by exact blw
                    have HB5 := Lib.hid (HB3.out.trans (hb5u.mono HB3.out.size))
                    clear hb5u
                    go_wp2_with fail
                    go_roundw
                    case rel => exact ⟨2 + 1, by decide, by first | rfl | go_num, HB5.out⟩
                    case measure => simp [Go.RowKit.intOf]
                · have dM : decide ((nd : Int) ≤ ((maxB lb : Nat) : Int) + ((maxB rb : Nat) : Int)) = true := by simp; omega
                  obtain ⟨hbad, _⟩ | ⟨_, hno, rfl⟩ | ⟨_, r1, r2, g, hok, _, hp⟩ := hres
                  · exfalso
                    unfold badP at hbad
                    omega
                  · clear hno
                    go_wp2_with fail
                    go_roundw
                    case rel => exact ⟨2 + 1, by decide, by first | rfl | go_num, HB3.out⟩
                    case measure => simp [Go.RowKit.intOf]
                  · exact absurd ((HGO.out 2 (by decide) 6 rfl _ _).1 hok).2.2 (by rw [HDL.out]; exact hM)
            · obtain rfl : j = 3 := by omega
              go_wp2_with fail
              go_ret
              exact ⟨rfl, HB1.out.trans (HB.out.mono HB1.out.size)⟩
        · have dy : decide ((k2 : Int) < (nr : Int)) = false := by simp; omega
          have HYV := Lib.hid (show (give22 1 rb (k2 : Nat)).1 = 0 from by unfold give22; rw [if_neg (by rw [HRL.out]; omega)])
          go_wp2_with fail
          go_loopw [85] (fun i wr => ∃ j : Nat, j ≤ 3 ∧ i = .int .i64 (j : Nat) ∧ Below w1.heap.size w1 wr) (fun i _ => (3 - Go.RowKit.intOf i).toNat)
          case atStart => exact ⟨0, by decide, rfl, brefl _⟩
          case round =>
            obtain ⟨j, hj, rfl, hb⟩ := hrel
            rename World => wr
            have HB := Lib.hid hb
            have R3 := Lib.hid ((hb.block _ m3).trans Y3.out)
            have q3 := fun o => cell_of_heap R3.out o
            have n3 := (Array.getElem?_eq_some_iff.1 R3.out).1
            clear hb
            by_cases hlt : j < 3
            · have hj3 : j = 0 ∨ j = 1 ∨ j = 2 := by omega
              rcases hj3 with rfl | rfl | rfl
              · go_wp2_with fail
                refine (HWK.out 0 (by decide) 0 rfl wr (HB1.out.trans (HB.out.mono HB1.out.size))).mono ?_
                rintro e w2 ⟨v, rfl, ⟨a9, c9, rfl, ho9, _, _, _⟩, hb2⟩
                have HB2 := Lib.hid (HB.out.trans (hb2.mono HB.out.size))
                have HRD := Lib.hid (pread_any 2 a9 _ c9 (gridB 0 lb rb ds) 300 w2 (has_of_owns ho9) rfl (by have := HGL.out 0; omega))
                clear ho9 hb2
                go_wp2_with fail
                refine HRD.out.mono ?_
                rintro e w3 ⟨hres, hb3⟩
                have HB3 := Lib.hid (HB2.out.trans (hb3.mono HB2.out.size))
                have V3 := Lib.hid ((HB3.out.block _ m3).trans Y3.out)
                have q3 := fun o => cell_of_heap V3.out o
                have o3 := (Array.getElem?_eq_some_iff.1 V3.out).1
                clear hb3 HRD
                by_cases hM : maxB lb + maxB rb < nd
                · have dM : decide ((nd : Int) ≤ ((maxB lb : Nat) : Int) + ((maxB rb : Nat) : Int)) = false := by simp; omega
                  obtain ⟨hbad, _⟩ | ⟨_, hno, _⟩ | ⟨_, r1, r2, g, hok, rfl, hp⟩ := hres
                  · exfalso
                    unfold badP at hbad
                    omega
                  · exact absurd ((HGO.out 0 (by decide) 2 rfl _ _).2 ⟨rfl, rfl, by rw [HDL.out]; exact hM⟩) (hno _ _)
                  · have hr12 := (HGO.out 0 (by decide) 2 rfl _ _).1 hok
                    obtain ⟨rfl, rfl, _⟩ := hr12
                    have HGU := Lib.hid (fun (U : World) (hU : Below w3.heap.size w3 U) => pget_any _ _ g _ _ 300 _ _ (k1 : Nat) (k2 : Nat) U (hp.below hU) hok (by decide) (by omega) (by omega))
                    rw [HGD.out 0 (by decide) 2 rfl (by rw [HDL.out]; exact hM) (k1 : Nat) (k2 : Nat), HXV.out, HYV.out] at HGU
                    have hS : X < nd := by have := HX1.out; have := HY1.out; rw [HXV.out] at *; rw [HYV.out] at *; omega
                    obtain ⟨z, hz⟩ : ∃ z, ds[X]? = some z := ⟨_, List.getElem?_eq_getElem (by rw [HDL.out]; exact hS)⟩
                    have hzb := HDB.out z (List.mem_of_getElem? hz)
                    obtain ⟨gd, od, rfl, hgd, hcd⟩ := (HHD.out.below (HB1.out.trans (HB3.out.mono HB1.out.size))).get (by rw [List.length_map, HDL.out]; omega)
                    have cz := hcd (X) (.int .i16 z) (by simp [hz])
                    rw [show ds.getD (X + 0) 0 = z from by rw [List.getD_eq_getElem?_getD, show X + 0 = X by omega, hz]; rfl] at HGU
                    have wS : IntKind.i64.wrap ((X : Int)) = (X : Int) := IntWalk.i64_in _ (by omega)
                    have wz : IntKind.i64.wrap z = z := IntWalk.i64_in _ (by omega)
                    clear hz hcd hp hok
                    go_wp2_with fail
                    refine wp_region_tree (.step 0 (.step 1 (.step 2 (.step 3 (.step 4 (.step 5 (.step 6 (.step 7 (.step 8 (.step 9 (.step 10 (.step 11 (.step 13 (.step 14 (.step 15 (.step 16 (.step 17 (.step 18 (.step 19 (.step 20 (.step 12 (.step 21 (.step 22 .nil))))))))))))))))))))))) (by kernel_rfl) (by kernel_rfl) (by kernel_rfl) (by kernel_rfl) (by intro _ _ d_ _ _ h_; cases d_ <;> first | exact h_ | (dsimp +zetaDelta only at h_ ⊢; exact h_)) (fun w' => ∃ p : Wld w3 [], w' = p.val) (wld_start _ _) ?_
                    have hG_ := @wldC w3
                    (refine tree_quiet gtA (by rfl) (by rfl) (fun K_ hK_ => ?_); go_big_quiet_op; refine hK_ _ ?_; clear hK_ K_)
                    (refine tree_quiet gtA (by rfl) (by rfl) (fun K_ hK_ => ?_); go_big_quiet_op; refine hK_ _ ?_; clear hK_ K_)
                    (refine tree_quiet gtA (by rfl) (by rfl) (fun K_ hK_ => ?_); go_big_quiet_op; refine hK_ _ ?_; clear hK_ K_)
                    (refine tree_quiet gtA (by rfl) (by rfl) (fun K_ hK_ => ?_); go_big_quiet_op; refine hK_ _ ?_; clear hK_ K_)
                    (refine tree_quiet gtA (by rfl) (by rfl) (fun K_ hK_ => ?_); go_big_quiet_op; refine hK_ _ ?_; clear hK_ K_)
                    (refine tree_quiet gtA (by rfl) (by rfl) (fun K_ hK_ => ?_); go_big_quiet_op; refine hK_ _ ?_; clear hK_ K_)
                    (refine tree_quiet gtA (by rfl) (by rfl) (fun K_ hK_ => ?_); go_big_quiet_op; refine hK_ _ ?_; clear hK_ K_)
                    (refine tree_quiet gtA (by rfl) (by rfl) (fun K_ hK_ => ?_); go_big_quiet_op; refine hK_ _ ?_; clear hK_ K_)
                    (refine tree_quiet gtA (by rfl) (by rfl) (fun K_ hK_ => ?_); go_big_quiet_op; refine hK_ _ ?_; clear hK_ K_)
                    (refine tree_quiet gtA (by rfl) (by rfl) (fun K_ hK_ => ?_); go_big_quiet_op; refine hK_ _ ?_; clear hK_ K_)
                    (refine tree_quiet gtA (by rfl) (by rfl) (fun K_ hK_ => ?_); go_big_quiet_op; refine hK_ _ ?_; clear hK_ K_)
                    (refine tree_quiet gtA (by rfl) (by rfl) (fun K_ hK_ => ?_); go_big_quiet_op; refine hK_ _ ?_; clear hK_ K_)
                    (refine tree_quiet gtA (by rfl) (by rfl) (fun K_ hK_ => ?_); go_big_quiet_op; refine hK_ _ ?_; clear hK_ K_)
                    (refine tree_quiet gtA (by rfl) (by rfl) (fun K_ hK_ => ?_); go_big_quiet_op; refine hK_ _ ?_; clear hK_ K_)
                    (refine tree_quiet gtA (by rfl) (by rfl) (fun K_ hK_ => ?_); go_big_quiet_op; refine hK_ _ ?_; clear hK_ K_)
                    (refine tree_quiet gtA (by rfl) (by rfl) (fun K_ hK_ => ?_); go_big_quiet_op; refine hK_ _ ?_; clear hK_ K_)
                    (refine tree_quiet gtA (by rfl) (by rfl) (fun K_ hK_ => ?_); go_big_quiet_op; refine hK_ _ ?_; clear hK_ K_)
                    (refine tree_quiet gtA (by rfl) (by rfl) (fun K_ hK_ => ?_); go_big_quiet_op; refine hK_ _ ?_; clear hK_ K_)
                    (refine tree_quiet gtA (by rfl) (by rfl) (fun K_ hK_ => ?_); go_big_quiet_op; refine hK_ _ ?_; clear hK_ K_)
                    (refine tree_quiet gtA (by rfl) (by rfl) (fun K_ hK_ => ?_); go_big_quiet_op; refine hK_ _ ?_; clear hK_ K_)
                    (refine tree_run gtA (by rfl) (by rfl) (fun K_ hK_ => ?_); have HK_ := Lib.hid hK_; clear hK_; go_wp2_with ((go_at_call 26; (with_reducible refine (HGU.out _ (by exact blw)).mono ?_); rintro e w5 ⟨rfl, hb5⟩; have h5c := bc hb5; have h5f := bf hb5; have h5z := hb5.size; try simp only [World.size_alloc, World.size_drew] at h5z)); refine HK_.out _ _ (wld_ofA) ?_; clear HK_)
                    (refine tree_quiet gtA (by rfl) (by rfl) (fun K_ hK_ => ?_); go_big_quiet_op; refine hK_ _ ?_; clear hK_ K_)
                    (refine tree_quiet gtA (by rfl) (by rfl) (fun K_ hK_ => ?_); go_big_quiet_op; refine hK_ _ ?_; clear hK_ K_)
                    refine tree_nil ?_
                    clear hG_
                    have hb5u : Below w3.heap.size w3 w5 := by exact blw
                    have HB5 := Lib.hid (HB3.out.trans (hb5u.mono HB3.out.size))
                    clear hb5u
                    go_wp2_with fail
                    go_roundw
                    case rel => exact ⟨0 + 1, by decide, by first | rfl | go_num, HB5.out⟩
                    case measure => simp [Go.RowKit.intOf]
                · have dM : decide ((nd : Int) ≤ ((maxB lb : Nat) : Int) + ((maxB rb : Nat) : Int)) = true := by simp; omega
                  obtain ⟨hbad, _⟩ | ⟨_, hno, rfl⟩ | ⟨_, r1, r2, g, hok, _, hp⟩ := hres
                  · exfalso
                    unfold badP at hbad
                    omega
                  · clear hno
                    go_wp2_with fail
                    go_roundw
                    case rel => exact ⟨0 + 1, by decide, by first | rfl | go_num, HB3.out⟩
                    case measure => simp [Go.RowKit.intOf]
                  · exact absurd ((HGO.out 0 (by decide) 2 rfl _ _).1 hok).2.2 (by rw [HDL.out]; exact hM)
              · go_wp2_with fail
                refine (HWK.out 1 (by decide) 1 rfl wr (HB1.out.trans (HB.out.mono HB1.out.size))).mono ?_
                rintro e w2 ⟨v, rfl, ⟨a9, c9, rfl, ho9, _, _, _⟩, hb2⟩
                have HB2 := Lib.hid (HB.out.trans (hb2.mono HB.out.size))
                have HRD := Lib.hid (pread_any 6 a9 _ c9 (gridB 1 lb rb ds) 300 w2 (has_of_owns ho9) rfl (by have := HGL.out 1; omega))
                clear ho9 hb2
                go_wp2_with fail
                refine HRD.out.mono ?_
                rintro e w3 ⟨hres, hb3⟩
                have HB3 := Lib.hid (HB2.out.trans (hb3.mono HB2.out.size))
                have V3 := Lib.hid ((HB3.out.block _ m3).trans Y3.out)
                have q3 := fun o => cell_of_heap V3.out o
                have o3 := (Array.getElem?_eq_some_iff.1 V3.out).1
                clear hb3 HRD
                by_cases hM : maxB lb + maxB rb < nd
                · have dM : decide ((nd : Int) ≤ ((maxB lb : Nat) : Int) + ((maxB rb : Nat) : Int)) = false := by simp; omega
                  obtain ⟨hbad, _⟩ | ⟨_, hno, _⟩ | ⟨_, r1, r2, g, hok, rfl, hp⟩ := hres
                  · exfalso
                    unfold badP at hbad
                    omega
                  · exact absurd ((HGO.out 1 (by decide) 6 rfl _ _).2 ⟨rfl, rfl, by rw [HDL.out]; exact hM⟩) (hno _ _)
                  · have hr12 := (HGO.out 1 (by decide) 6 rfl _ _).1 hok
                    obtain ⟨rfl, rfl, _⟩ := hr12
                    have HGU := Lib.hid (fun (U : World) (hU : Below w3.heap.size w3 U) => pget_any _ _ g _ _ 300 _ _ (k1 : Nat) (k2 : Nat) U (hp.below hU) hok (by decide) (by omega) (by omega))
                    rw [HGD.out 1 (by decide) 6 rfl (by rw [HDL.out]; exact hM) (k1 : Nat) (k2 : Nat), HXV.out, HYV.out] at HGU
                    have hS : X < nd := by have := HX1.out; have := HY1.out; rw [HXV.out] at *; rw [HYV.out] at *; omega
                    obtain ⟨z, hz⟩ : ∃ z, ds[X]? = some z := ⟨_, List.getElem?_eq_getElem (by rw [HDL.out]; exact hS)⟩
                    have hzb := HDB.out z (List.mem_of_getElem? hz)
                    obtain ⟨gd, od, rfl, hgd, hcd⟩ := (HHD.out.below (HB1.out.trans (HB3.out.mono HB1.out.size))).get (by rw [List.length_map, HDL.out]; omega)
                    have cz := hcd (X) (.int .i16 z) (by simp [hz])
                    rw [show ds.getD (X + 0) 0 = z from by rw [List.getD_eq_getElem?_getD, show X + 0 = X by omega, hz]; rfl] at HGU
                    have wS : IntKind.i64.wrap ((X : Int)) = (X : Int) := IntWalk.i64_in _ (by omega)
                    have wz : IntKind.i64.wrap z = z := IntWalk.i64_in _ (by omega)
                    clear hz hcd hp hok
                    go_wp2_with fail
                    refine wp_region_tree (.step 0 (.step 1 (.step 2 (.step 3 (.step 4 (.step 5 (.step 6 (.step 7 (.step 8 (.step 9 (.step 10 (.step 11 (.step 13 (.step 14 (.step 15 (.step 16 (.step 17 (.step 18 (.step 19 (.step 20 (.step 12 (.step 21 (.step 22 .nil))))))))))))))))))))))) (by kernel_rfl) (by kernel_rfl) (by kernel_rfl) (by kernel_rfl) (by intro _ _ d_ _ _ h_; cases d_ <;> first | exact h_ | (dsimp +zetaDelta only at h_ ⊢; exact h_)) (fun w' => ∃ p : Wld w3 [], w' = p.val) (wld_start _ _) ?_
                    have hG_ := @wldC w3
                    (refine tree_quiet gtA (by rfl) (by rfl) (fun K_ hK_ => ?_); go_big_quiet_op; refine hK_ _ ?_; clear hK_ K_)
                    (refine tree_quiet gtA (by rfl) (by rfl) (fun K_ hK_ => ?_); go_big_quiet_op; refine hK_ _ ?_; clear hK_ K_)
                    (refine tree_quiet gtA (by rfl) (by rfl) (fun K_ hK_ => ?_); go_big_quiet_op; refine hK_ _ ?_; clear hK_ K_)
                    (refine tree_quiet gtA (by rfl) (by rfl) (fun K_ hK_ => ?_); go_big_quiet_op; refine hK_ _ ?_; clear hK_ K_)
                    (refine tree_quiet gtA (by rfl) (by rfl) (fun K_ hK_ => ?_); go_big_quiet_op; refine hK_ _ ?_; clear hK_ K_)
                    (refine tree_quiet gtA (by rfl) (by rfl) (fun K_ hK_ => ?_); go_big_quiet_op; refine hK_ _ ?_; clear hK_ K_)
                    (refine tree_quiet gtA (by rfl) (by rfl) (fun K_ hK_ => ?_); go_big_quiet_op; refine hK_ _ ?_; clear hK_ K_)
                    (refine tree_quiet gtA (by rfl) (by rfl) (fun K_ hK_ => ?_); go_big_quiet_op; refine hK_ _ ?_; clear hK_ K_)
                    (refine tree_quiet gtA (by rfl) (by rfl) (fun K_ hK_ => ?_); go_big_quiet_op; refine hK_ _ ?_; clear hK_ K_)
                    (refine tree_quiet gtA (by rfl) (by rfl) (fun K_ hK_ => ?_); go_big_quiet_op; refine hK_ _ ?_; clear hK_ K_)
                    (refine tree_quiet gtA (by rfl) (by rfl) (fun K_ hK_ => ?_); go_big_quiet_op; refine hK_ _ ?_; clear hK_ K_)
                    (refine tree_quiet gtA (by rfl) (by rfl) (fun K_ hK_ => ?_); go_big_quiet_op; refine hK_ _ ?_; clear hK_ K_)
                    (refine tree_quiet gtA (by rfl) (by rfl) (fun K_ hK_ => ?_); go_big_quiet_op; refine hK_ _ ?_; clear hK_ K_)
                    (refine tree_quiet gtA (by rfl) (by rfl) (fun K_ hK_ => ?_); go_big_quiet_op; refine hK_ _ ?_; clear hK_ K_)
                    (refine tree_quiet gtA (by rfl) (by rfl) (fun K_ hK_ => ?_); go_big_quiet_op; refine hK_ _ ?_; clear hK_ K_)
                    (refine tree_quiet gtA (by rfl) (by rfl) (fun K_ hK_ => ?_); go_big_quiet_op; refine hK_ _ ?_; clear hK_ K_)
                    (refine tree_quiet gtA (by rfl) (by rfl) (fun K_ hK_ => ?_); go_big_quiet_op; refine hK_ _ ?_; clear hK_ K_)
                    (refine tree_quiet gtA (by rfl) (by rfl) (fun K_ hK_ => ?_); go_big_quiet_op; refine hK_ _ ?_; clear hK_ K_)
                    (refine tree_quiet gtA (by rfl) (by rfl) (fun K_ hK_ => ?_); go_big_quiet_op; refine hK_ _ ?_; clear hK_ K_)
                    (refine tree_quiet gtA (by rfl) (by rfl) (fun K_ hK_ => ?_); go_big_quiet_op; refine hK_ _ ?_; clear hK_ K_)
                    (refine tree_run gtA (by rfl) (by rfl) (fun K_ hK_ => ?_); have HK_ := Lib.hid hK_; clear hK_; go_wp2_with ((go_at_call 26; (with_reducible refine (HGU.out _ (by exact blw)).mono ?_); rintro e w5 ⟨rfl, hb5⟩; have h5c := bc hb5; have h5f := bf hb5; have h5z := hb5.size; try simp only [World.size_alloc, World.size_drew] at h5z)); refine HK_.out _ _ (wld_ofA) ?_; clear HK_)
                    (refine tree_quiet gtA (by rfl) (by rfl) (fun K_ hK_ => ?_); go_big_quiet_op; refine hK_ _ ?_; clear hK_ K_)
                    (refine tree_quiet gtA (by rfl) (by rfl) (fun K_ hK_ => ?_); go_big_quiet_op; refine hK_ _ ?_; clear hK_ K_)
                    refine tree_nil ?_
                    clear hG_
                    have hb5u : Below w3.heap.size w3 w5 := by exact blw
                    have HB5 := Lib.hid (HB3.out.trans (hb5u.mono HB3.out.size))
                    clear hb5u
                    go_wp2_with fail
                    go_roundw
                    case rel => exact ⟨1 + 1, by decide, by first | rfl | go_num, HB5.out⟩
                    case measure => simp [Go.RowKit.intOf]
                · have dM : decide ((nd : Int) ≤ ((maxB lb : Nat) : Int) + ((maxB rb : Nat) : Int)) = true := by simp; omega
                  obtain ⟨hbad, _⟩ | ⟨_, hno, rfl⟩ | ⟨_, r1, r2, g, hok, _, hp⟩ := hres
                  · exfalso
                    unfold badP at hbad
                    omega
                  · clear hno
                    go_wp2_with fail
                    go_roundw
                    case rel => exact ⟨1 + 1, by decide, by first | rfl | go_num, HB3.out⟩
                    case measure => simp [Go.RowKit.intOf]
                  · exact absurd ((HGO.out 1 (by decide) 6 rfl _ _).1 hok).2.2 (by rw [HDL.out]; exact hM)
              · go_wp2_with fail
                refine (HWK.out 2 (by decide) 2 rfl wr (HB1.out.trans (HB.out.mono HB1.out.size))).mono ?_
                rintro e w2 ⟨v, rfl, ⟨a9, c9, rfl, ho9, _, _, _⟩, hb2⟩
                have HB2 := Lib.hid (HB.out.trans (hb2.mono HB.out.size))
                have HRD := Lib.hid (pread_any 6 a9 _ c9 (gridB 2 lb rb ds) 300 w2 (has_of_owns ho9) rfl (by have := HGL.out 2; omega))
                clear ho9 hb2
                go_wp2_with fail
                refine HRD.out.mono ?_
                rintro e w3 ⟨hres, hb3⟩
                have HB3 := Lib.hid (HB2.out.trans (hb3.mono HB2.out.size))
                have V3 := Lib.hid ((HB3.out.block _ m3).trans Y3.out)
                have q3 := fun o => cell_of_heap V3.out o
                have o3 := (Array.getElem?_eq_some_iff.1 V3.out).1
                clear hb3 HRD
                by_cases hM : maxB lb + maxB rb < nd
                · have dM : decide ((nd : Int) ≤ ((maxB lb : Nat) : Int) + ((maxB rb : Nat) : Int)) = false := by simp; omega
                  obtain ⟨hbad, _⟩ | ⟨_, hno, _⟩ | ⟨_, r1, r2, g, hok, rfl, hp⟩ := hres
                  · exfalso
                    unfold badP at hbad
                    omega
                  · exact absurd ((HGO.out 2 (by decide) 6 rfl _ _).2 ⟨rfl, rfl, by rw [HDL.out]; exact hM⟩) (hno _ _)
                  · have hr12 := (HGO.out 2 (by decide) 6 rfl _ _).1 hok
                    obtain ⟨rfl, rfl, _⟩ := hr12
                    have HGU := Lib.hid (fun (U : World) (hU : Below w3.heap.size w3 U) => pget_any _ _ g _ _ 300 _ _ (k1 : Nat) (k2 : Nat) U (hp.below hU) hok (by decide) (by omega) (by omega))
                    rw [HGD.out 2 (by decide) 6 rfl (by rw [HDL.out]; exact hM) (k1 : Nat) (k2 : Nat), HXV.out, HYV.out] at HGU
                    have hS : X < nd := by have := HX1.out; have := HY1.out; rw [HXV.out] at *; rw [HYV.out] at *; omega
                    obtain ⟨z, hz⟩ : ∃ z, ds[X]? = some z := ⟨_, List.getElem?_eq_getElem (by rw [HDL.out]; exact hS)⟩
                    have hzb := HDB.out z (List.mem_of_getElem? hz)
                    obtain ⟨gd, od, rfl, hgd, hcd⟩ := (HHD.out.below (HB1.out.trans (HB3.out.mono HB1.out.size))).get (by rw [List.length_map, HDL.out]; omega)
                    have cz := hcd (X) (.int .i16 z) (by simp [hz])
                    rw [show ds.getD (X + 0) 0 = z from by rw [List.getD_eq_getElem?_getD, show X + 0 = X by omega, hz]; rfl] at HGU
                    have wS : IntKind.i64.wrap ((X : Int)) = (X : Int) := IntWalk.i64_in _ (by omega)
                    have wz : IntKind.i64.wrap z = z := IntWalk.i64_in _ (by omega)
                    clear hz hcd hp hok
                    go_wp2_with fail
                    refine wp_region_tree (.step 0 (.step 1 (.step 2 (.step 3 (.step 4 (.step 5 (.step 6 (.step 7 (.step 8 (.step 9 (.step 10 (.step 11 (.step 13 (.step 14 (.step 15 (.step 16 (.step 17 (.step 18 (.step 19 (.step 20 (.step 12 (.step 21 (.step 22 .nil))))))))))))))))))))))) (by kernel_rfl) (by kernel_rfl) (by kernel_rfl) (by kernel_rfl) (by intro _ _ d_ _ _ h_; cases d_ <;> first | exact h_ | (dsimp +zetaDelta only at h_ ⊢; exact h_)) (fun w' => ∃ p : Wld w3 [], w' = p.val) (wld_start _ _) ?_
                    have hG_ := @wldC w3
                    (refine tree_quiet gtA (by rfl) (by rfl) (fun K_ hK_ => ?_); go_big_quiet_op; refine hK_ _ ?_; clear hK_ K_)
                    (refine tree_quiet gtA (by rfl) (by rfl) (fun K_ hK_ => ?_); go_big_quiet_op; refine hK_ _ ?_; clear hK_ K_)
                    (refine tree_quiet gtA (by rfl) (by rfl) (fun K_ hK_ => ?_); go_big_quiet_op; refine hK_ _ ?_; clear hK_ K_)
                    (refine tree_quiet gtA (by rfl) (by rfl) (fun K_ hK_ => ?_); go_big_quiet_op; refine hK_ _ ?_; clear hK_ K_)
                    (refine tree_quiet gtA (by rfl) (by rfl) (fun K_ hK_ => ?_); go_big_quiet_op; refine hK_ _ ?_; clear hK_ K_)
                    (refine tree_quiet gtA (by rfl) (by rfl) (fun K_ hK_ => ?_); go_big_quiet_op; refine hK_ _ ?_; clear hK_ K_)
                    (refine tree_quiet gtA (by rfl) (by rfl) (fun K_ hK_ => ?_); go_big_quiet_op; refine hK_ _ ?_; clear hK_ K_)
                    (refine tree_quiet gtA (by rfl) (by rfl) (fun K_ hK_ => ?_); go_big_quiet_op; refine hK_ _ ?_; clear hK_ K_)
                    (refine tree_quiet gtA (by rfl) (by rfl) (fun K_ hK_ => ?_); go_big_quiet_op; refine hK_ _ ?_; clear hK_ K_)
                    (refine tree_quiet gtA (by rfl) (by rfl) (fun K_ hK_ => ?_); go_big_quiet_op; refine hK_ _ ?_; clear hK_ K_)
                    (refine tree_quiet gtA (by rfl) (by rfl) (fun K_ hK_ => ?_); go_big_quiet_op; refine hK_ _ ?_; clear hK_ K_)
                    (refine tree_quiet gtA (by rfl) (by rfl) (fun K_ hK_ => ?_); go_big_quiet_op; refine hK_ _ ?_; clear hK_ K_)
                    (refine tree_quiet gtA (by rfl) (by rfl) (fun K_ hK_ => ?_); go_big_quiet_op; refine hK_ _ ?_; clear hK_ K_)
                    (refine tree_quiet gtA (by rfl) (by rfl) (fun K_ hK_ => ?_); go_big_quiet_op; refine hK_ _ ?_; clear hK_ K_)
                    (refine tree_quiet gtA (by rfl) (by rfl) (fun K_ hK_ => ?_); go_big_quiet_op; refine hK_ _ ?_; clear hK_ K_)
                    (refine tree_quiet gtA (by rfl) (by rfl) (fun K_ hK_ => ?_); go_big_quiet_op; refine hK_ _ ?_; clear hK_ K_)
                    (refine tree_quiet gtA (by rfl) (by rfl) (fun K_ hK_ => ?_); go_big_quiet_op; refine hK_ _ ?_; clear hK_ K_)
                    (refine tree_quiet gtA (by rfl) (by rfl) (fun K_ hK_ => ?_); go_big_quiet_op; refine hK_ _ ?_; clear hK_ K_)
                    (refine tree_quiet gtA (by rfl) (by rfl) (fun K_ hK_ => ?_); go_big_quiet_op; refine hK_ _ ?_; clear hK_ K_)
                    (refine tree_quiet gtA (by rfl) (by rfl) (fun K_ hK_ => ?_); go_big_quiet_op; refine hK_ _ ?_; clear hK_ K_)
                    (refine tree_run gtA (by rfl) (by rfl) (fun K_ hK_ => ?_); have HK_ := Lib.hid hK_; clear hK_; go_wp2_with ((go_at_call 26; (with_reducible refine (HGU.out _ (by exact blw)).mono ?_); rintro e w5 ⟨rfl, hb5⟩; have h5c := bc hb5; have h5f := bf hb5; have h5z := hb5.size; try simp only [World.size_alloc, World.size_drew] at h5z)); refine HK_.out _ _ (wld_ofA) ?_; clear HK_)
                    (refine tree_quiet gtA (by rfl) (by rfl) (fun K_ hK_ => ?_); go_big_quiet_op; refine hK_ _ ?_; clear hK_ K_)
                    (refine tree_quiet gtA (by rfl) (by rfl) (fun K_ hK_ => ?_); go_big_quiet_op; refine hK_ _ ?_; clear hK_ K_)
                    refine tree_nil ?_
                    clear hG_
                    have hb5u : Below w3.heap.size w3 w5 := by exact blw
                    have HB5 := Lib.hid (HB3.out.trans (hb5u.mono HB3.out.size))
                    clear hb5u
                    go_wp2_with fail
                    go_roundw
                    case rel => exact ⟨2 + 1, by decide, by first | rfl | go_num, HB5.out⟩
                    case measure => simp [Go.RowKit.intOf]
                · have dM : decide ((nd : Int) ≤ ((maxB lb : Nat) : Int) + ((maxB rb : Nat) : Int)) = true := by simp; omega
                  obtain ⟨hbad, _⟩ | ⟨_, hno, rfl⟩ | ⟨_, r1, r2, g, hok, _, hp⟩ := hres
                  · exfalso
                    unfold badP at hbad
                    omega
                  · clear hno
                    go_wp2_with fail
                    go_roundw
                    case rel => exact ⟨2 + 1, by decide, by first | rfl | go_num, HB3.out⟩
                    case measure => simp [Go.RowKit.intOf]
                  · exact absurd ((HGO.out 2 (by decide) 6 rfl _ _).1 hok).2.2 (by rw [HDL.out]; exact hM)
            · obtain rfl : j = 3 := by omega
              go_wp2_with fail
              go_ret
              exact ⟨rfl, HB1.out.trans (HB.out.mono HB1.out.size)⟩
      · have dx : decide ((k1 : Int) < (nl : Int)) = false := by simp; omega
        have HXV := Lib.hid (show (give22 1 lb (k1 : Nat)).1 = 0 from by unfold give22; rw [if_neg (by rw [HLL.out]; omega)])
        by_cases hky : k2 < nr
        · have dy : decide ((k2 : Int) < (nr : Int)) = true := by simp; omega
          obtain ⟨y, hy⟩ : ∃ y, rb[k2]? = some y := ⟨_, List.getElem?_eq_getElem (by rw [HRL.out]; exact hky)⟩
          obtain ⟨gy, oy, rfl, hgy, hcy⟩ := (HHR.out.below HB1.out).get (by rw [bytesV_length, HRL.out]; omega)
          have cy := hcy k2 (.int .u8 (y.toNat : Nat)) (by simp [bytesV, hy])
          have HYV := Lib.hid (show (give22 1 rb (k2 : Nat)).1 = y.toNat from by unfold give22; rw [if_pos (by rw [HRL.out]; omega), Int.toNat_natCast, List.getD_eq_getElem?_getD, hy]; simp)
          have byy := y.toNat_lt
          generalize y.toNat = Y at *
          have wY : IntKind.i64.wrap (Y : Int) = (Y : Int) := IntWalk.i64_in _ (by omega)
          clear hy hcy
          go_wp2_with fail
          go_loopw [85] (fun i wr => ∃ j : Nat, j ≤ 3 ∧ i = .int .i64 (j : Nat) ∧ Below w1.heap.size w1 wr) (fun i _ => (3 - Go.RowKit.intOf i).toNat)
          case atStart => exact ⟨0, by decide, rfl, brefl _⟩
          case round =>
            obtain ⟨j, hj, rfl, hb⟩ := hrel
            rename World => wr
            have HB := Lib.hid hb
            have R3 := Lib.hid ((hb.block _ m3).trans Y3.out)
            have q3 := fun o => cell_of_heap R3.out o
            have n3 := (Array.getElem?_eq_some_iff.1 R3.out).1
            clear hb
            by_cases hlt : j < 3
            · have hj3 : j = 0 ∨ j = 1 ∨ j = 2 := by omega
              rcases hj3 with rfl | rfl | rfl
              · go_wp2_with fail
                refine (HWK.out 0 (by decide) 0 rfl wr (HB1.out.trans (HB.out.mono HB1.out.size))).mono ?_
                rintro e w2 ⟨v, rfl, ⟨a9, c9, rfl, ho9, _, _, _⟩, hb2⟩
                have HB2 := Lib.hid (HB.out.trans (hb2.mono HB.out.size))
                have HRD := Lib.hid (pread_any 2 a9 _ c9 (gridB 0 lb rb ds) 300 w2 (has_of_owns ho9) rfl (by have := HGL.out 0; omega))
                clear ho9 hb2
                go_wp2_with fail
                refine HRD.out.mono ?_
                rintro e w3 ⟨hres, hb3⟩
                have HB3 := Lib.hid (HB2.out.trans (hb3.mono HB2.out.size))
                have V3 := Lib.hid ((HB3.out.block _ m3).trans Y3.out)
                have q3 := fun o => cell_of_heap V3.out o
                have o3 := (Array.getElem?_eq_some_iff.1 V3.out).1
                clear hb3 HRD
                by_cases hM : maxB lb + maxB rb < nd
                · have dM : decide ((nd : Int) ≤ ((maxB lb : Nat) : Int) + ((maxB rb : Nat) : Int)) = false := by simp; omega
                  obtain ⟨hbad, _⟩ | ⟨_, hno, _⟩ | ⟨_, r1, r2, g, hok, rfl, hp⟩ := hres
                  · exfalso
                    unfold badP at hbad
                    omega
                  · exact absurd ((HGO.out 0 (by decide) 2 rfl _ _).2 ⟨rfl, rfl, by rw [HDL.out]; exact hM⟩) (hno _ _)
                  · have hr12 := (HGO.out 0 (by decide) 2 rfl _ _).1 hok
                    obtain ⟨rfl, rfl, _⟩ := hr12
                    have HGU := Lib.hid (fun (U : World) (hU : Below w3.heap.size w3 U) => pget_any _ _ g _ _ 300 _ _ (k1 : Nat) (k2 : Nat) U (hp.below hU) hok (by decide) (by omega) (by omega))
                    rw [HGD.out 0 (by decide) 2 rfl (by rw [HDL.out]; exact hM) (k1 : Nat) (k2 : Nat), HXV.out, HYV.out] at HGU
                    have hS : Y < nd := by have := HX1.out; have := HY1.out; rw [HXV.out] at *; rw [HYV.out] at *; omega
                    obtain ⟨z, hz⟩ : ∃ z, ds[Y]? = some z := ⟨_, List.getElem?_eq_getElem (by rw [HDL.out]; exact hS)⟩
                    have hzb := HDB.out z (List.mem_of_getElem? hz)
                    obtain ⟨gd, od, rfl, hgd, hcd⟩ := (HHD.out.below (HB1.out.trans (HB3.out.mono HB1.out.size))).get (by rw [List.length_map, HDL.out]; omega)
                    have cz := hcd (Y) (.int .i16 z) (by simp [hz])
                    rw [show ds.getD (0 + Y) 0 = z from by rw [List.getD_eq_getElem?_getD, show 0 + Y = Y by omega, hz]; rfl] at HGU
                    have wS : IntKind.i64.wrap ((Y : Int)) = (Y : Int) := IntWalk.i64_in _ (by omega)
                    have wz : IntKind.i64.wrap z = z := IntWalk.i64_in _ (by omega)
                    clear hz hcd hp hok
                    go_wp2_with fail
                    refine wp_region_tree (.step 0 (.step 1 (.step 2 (.step 3 (.step 4 (.step 5 (.step 6 (.step 7 (.step 8 (.step 9 (.step 10 (.step 11 (.step 13 (.step 14 (.step 15 (.step 16 (.step 17 (.step 18 (.step 19 (.step 20 (.step 12 (.step 21 (.step 22 .nil))))))))))))))))))))))) (by kernel_rfl) (by kernel_rfl) (by kernel_rfl) (by kernel_rfl) (by intro _ _ d_ _ _ h_; cases d_ <;> first | exact h_ | (dsimp +zetaDelta only at h_ ⊢; exact h_)) (fun w' => ∃ p : Wld w3 [], w' = p.val) (wld_start _ _) ?_
                    have hG_ := @wldC w3
                    (refine tree_quiet gtA (by rfl) (by rfl) (fun K_ hK_ => ?_); go_big_quiet_op; refine hK_ _ ?_; clear hK_ K_)
                    (refine tree_quiet gtA (by rfl) (by rfl) (fun K_ hK_ => ?_); go_big_quiet_op; refine hK_ _ ?_; clear hK_ K_)
                    (refine tree_quiet gtA (by rfl) (by rfl) (fun K_ hK_ => ?_); go_big_quiet_op; refine hK_ _ ?_; clear hK_ K_)
                    (refine tree_quiet gtA (by rfl) (by rfl) (fun K_ hK_ => ?_); go_big_quiet_op; refine hK_ _ ?_; clear hK_ K_)
                    (refine tree_quiet gtA (by rfl) (by rfl) (fun K_ hK_ => ?_); go_big_quiet_op; refine hK_ _ ?_; clear hK_ K_)
                    (refine tree_quiet gtA (by rfl) (by rfl) (fun K_ hK_ => ?_); go_big_quiet_op; refine hK_ _ ?_; clear hK_ K_)
                    (refine tree_quiet gtA (by rfl) (by rfl) (fun K_ hK_ => ?_); go_big_quiet_op; refine hK_ _ ?_; clear hK_ K_)
                    (refine tree_quiet gtA (by rfl) (by rfl) (fun K_ hK_ => ?_); go_big_quiet_op; refine hK_ _ ?_; clear hK_ K_)
                    (refine tree_quiet gtA (by rfl) (by rfl) (fun K_ hK_ => ?_); go_big_quiet_op; refine hK_ _ ?_; clear hK_ K_)
                    (refine tree_quiet gtA (by rfl) (by rfl) (fun K_ hK_ => ?_); go_big_quiet_op; refine hK_ _ ?_; clear hK_ K_)
                    (refine tree_quiet gtA (by rfl) (by rfl) (fun K_ hK_ => ?_); go_big_quiet_op; refine hK_ _ ?_; clear hK_ K_)
                    (refine tree_quiet gtA (by rfl) (by rfl) (fun K_ hK_ => ?_); go_big_quiet_op; refine hK_ _ ?_; clear hK_ K_)
                    (refine tree_quiet gtA (by rfl) (by rfl) (fun K_ hK_ => ?_); go_big_quiet_op; refine hK_ _ ?_; clear hK_ K_)
                    (refine tree_quiet gtA (by rfl) (by rfl) (fun K_ hK_ => ?_); go_big_quiet_op; refine hK_ _ ?_; clear hK_ K_)
                    (refine tree_quiet gtA (by rfl) (by rfl) (fun K_ hK_ => ?_); go_big_quiet_op; refine hK_ _ ?_; clear hK_ K_)
                    (refine tree_quiet gtA (by rfl) (by rfl) (fun K_ hK_ => ?_); go_big_quiet_op; refine hK_ _ ?_; clear hK_ K_)
                    (refine tree_quiet gtA (by rfl) (by rfl) (fun K_ hK_ => ?_); go_big_quiet_op; refine hK_ _ ?_; clear hK_ K_)
                    (refine tree_quiet gtA (by rfl) (by rfl) (fun K_ hK_ => ?_); go_big_quiet_op; refine hK_ _ ?_; clear hK_ K_)
                    (refine tree_quiet gtA (by rfl) (by rfl) (fun K_ hK_ => ?_); go_big_quiet_op; refine hK_ _ ?_; clear hK_ K_)
                    (refine tree_quiet gtA (by rfl) (by rfl) (fun K_ hK_ => ?_); go_big_quiet_op; refine hK_ _ ?_; clear hK_ K_)
                    (refine tree_run gtA (by rfl) (by rfl) (fun K_ hK_ => ?_); have HK_ := Lib.hid hK_; clear hK_; go_wp2_with ((go_at_call 26; (with_reducible refine (HGU.out _ (by exact blw)).mono ?_); rintro e w5 ⟨rfl, hb5⟩; have h5c := bc hb5; have h5f := bf hb5; have h5z := hb5.size; try simp only [World.size_alloc, World.size_drew] at h5z)); refine HK_.out _ _ (wld_ofA) ?_; clear HK_)
                    (refine tree_quiet gtA (by rfl) (by rfl) (fun K_ hK_ => ?_); go_big_quiet_op; refine hK_ _ ?_; clear hK_ K_)
                    (refine tree_quiet gtA (by rfl) (by rfl) (fun K_ hK_ => ?_); go_big_quiet_op; refine hK_ _ ?_; clear hK_ K_)
                    refine tree_nil ?_
                    clear hG_
                    have hb5u : Below w3.heap.size w3 w5 := by exact blw
                    have HB5 := Lib.hid (HB3.out.trans (hb5u.mono HB3.out.size))
                    clear hb5u
                    go_wp2_with fail
                    go_roundw
                    case rel => exact ⟨0 + 1, by decide, by first | rfl | go_num, HB5.out⟩
                    case measure => simp [Go.RowKit.intOf]
                · have dM : decide ((nd : Int) ≤ ((maxB lb : Nat) : Int) + ((maxB rb : Nat) : Int)) = true := by simp; omega
                  obtain ⟨hbad, _⟩ | ⟨_, hno, rfl⟩ | ⟨_, r1, r2, g, hok, _, hp⟩ := hres
                  · exfalso
                    unfold badP at hbad
                    omega
                  · clear hno
                    go_wp2_with fail
                    go_roundw
                    case rel => exact ⟨0 + 1, by decide, by first | rfl | go_num, HB3.out⟩
                    case measure => simp [Go.RowKit.intOf]
                  · exact absurd ((HGO.out 0 (by decide) 2 rfl _ _).1 hok).2.2 (by rw [HDL.out]; exact hM)
              · go_wp2_with fail
                refine (HWK.out 1 (by decide) 1 rfl wr (HB1.out.trans (HB.out.mono HB1.out.size))).mono ?_
                rintro e w2 ⟨v, rfl, ⟨a9, c9, rfl, ho9, _, _, _⟩, hb2⟩
                have HB2 := Lib.hid (HB.out.trans (hb2.mono HB.out.size))
                have HRD := Lib.hid (pread_any 6 a9 _ c9 (gridB 1 lb rb ds) 300 w2 (has_of_owns ho9) rfl (by have := HGL.out 1; omega))
                clear ho9 hb2
                go_wp2_with fail
                refine HRD.out.mono ?_
                rintro e w3 ⟨hres, hb3⟩
                have HB3 := Lib.hid (HB2.out.trans (hb3.mono HB2.out.size))
                have V3 := Lib.hid ((HB3.out.block _ m3).trans Y3.out)
                have q3 := fun o => cell_of_heap V3.out o
                have o3 := (Array.getElem?_eq_some_iff.1 V3.out).1
                clear hb3 HRD
                by_cases hM : maxB lb + maxB rb < nd
                · have dM : decide ((nd : Int) ≤ ((maxB lb : Nat) : Int) + ((maxB rb : Nat) : Int)) = false := by simp; omega
                  obtain ⟨hbad, _⟩ | ⟨_, hno, _⟩ | ⟨_, r1, r2, g, hok, rfl, hp⟩ := hres
                  · exfalso
                    unfold badP at hbad
                    omega
                  · exact absurd ((HGO.out 1 (by decide) 6 rfl _ _).2 ⟨rfl, rfl, by rw [HDL.out]; exact hM⟩) (hno _ _)
                  · have hr12 := (HGO.out 1 (by decide) 6 rfl _ _).1 hok
                    obtain ⟨rfl, rfl, _⟩ := hr12
                    have HGU := Lib.hid (fun (U : World) (hU : Below w3.heap.size w3 U) => pget_any _ _ g _ _ 300 _ _ (k1 : Nat) (k2 : Nat) U (hp.below hU) hok (by decide) (by omega) (by omega))
                    rw [HGD.out 1 (by decide) 6 rfl (by rw [HDL.out]; exact hM) (k1 : Nat) (k2 : Nat), HXV.out, HYV.out] at HGU
                    have hS : Y < nd := by have := HX1.out; have := HY1.out; rw [HXV.out] at *; rw [HYV.out] at *; omega
                    obtain ⟨z, hz⟩ : ∃ z, ds[Y]? = some z := ⟨_, List.getElem?_eq_getElem (by rw [HDL.out]; exact hS)⟩
                    have hzb := HDB.out z (List.mem_of_getElem? hz)
                    obtain ⟨gd, od, rfl, hgd, hcd⟩ := (HHD.out.below (HB1.out.trans (HB3.out.mono HB1.out.size))).get (by rw [List.length_map, HDL.out]; omega)
                    have cz := hcd (Y) (.int .i16 z) (by simp [hz])
                    rw [show ds.getD (0 + Y) 0 = z from by rw [List.getD_eq_getElem?_getD, show 0 + Y = Y by omega, hz]; rfl] at HGU
                    have wS : IntKind.i64.wrap ((Y : Int)) = (Y : Int) := IntWalk.i64_in _ (by omega)
                    have wz : IntKind.i64.wrap z = z := IntWalk.i64_in _ (by omega)
                    clear hz hcd hp hok
                    go_wp2_with fail
                    refine wp_region_tree (.step 0 (.step 1 (.step 2 (.step 3 (.step 4 (.step 5 (.step 6 (.step 7 (.step 8 (.step 9 (.step 10 (.step 11 (.step 13 (.step 14 (.step 15 (.step 16 (.step 17 (.step 18 (.step 19 (.step 20 (.step 12 (.step 21 (.step 22 .nil))))))))))))))))))))))) (by kernel_rfl) (by kernel_rfl) (by kernel_rfl) (by kernel_rfl) (by intro _ _ d_ _ _ h_; cases d_ <;> first | exact h_ | (dsimp +zetaDelta only at h_ ⊢; exact h_)) (fun w' => ∃ p : Wld w3 [], w' = p.val) (wld_start _ _) ?_
                    have hG_ := @wldC w3
                    (refine tree_quiet gtA (by rfl) (by rfl) (fun K_ hK_ => ?_); go_big_quiet_op; refine hK_ _ ?_; clear hK_ K_)
                    (refine tree_quiet gtA (by rfl) (by rfl) (fun K_ hK_ => ?_); go_big_quiet_op; refine hK_ _ ?_; clear hK_ K_)
                    (refine tree_quiet gtA (by rfl) (by rfl) (fun K_ hK_ => ?_); go_big_quiet_op; refine hK_ _ ?_; clear hK_ K_)
                    (refine tree_quiet gtA (by rfl) (by rfl) (fun K_ hK_ => ?_); go_big_quiet_op; refine hK_ _ ?_; clear hK_ K_)
                    (refine tree_quiet gtA (by rfl) (by rfl) (fun K_ hK_ => ?_); go_big_quiet_op; refine hK_ _ ?_; clear hK_ K_)
                    (refine tree_quiet gtA (by rfl) (by rfl) (fun K_ hK_ => ?_); go_big_quiet_op; refine hK_ _ ?_; clear hK_ K_)
                    (refine tree_quiet gtA (by rfl) (by rfl) (fun K_ hK_ => ?_); go_big_quiet_op; refine hK_ _ ?_; clear hK_ K_)
                    (refine tree_quiet gtA (by rfl) (by rfl) (fun K_ hK_ => ?_); go_big_quiet_op; refine hK_ _ ?_; clear hK_ K_)
                    (refine tree_quiet gtA (by rfl) (by rfl) (fun K_ hK_ => ?_); go_big_quiet_op; refine hK_ _ ?_; clear hK_ K_)
                    (refine tree_quiet gtA (by rfl) (by rfl) (fun K_ hK_ => ?_); go_big_quiet_op; refine hK_ _ ?_; clear hK_ K_)
                    (refine tree_quiet gtA (by rfl) (by rfl) (fun K_ hK_ => ?_); go_big_quiet_op; refine hK_ _ ?_; clear hK_ K_)
                    (refine tree_quiet gtA (by rfl) (by rfl) (fun K_ hK_ => ?_); go_big_quiet_op; refine hK_ _ ?_; clear hK_ K_)
                    (refine tree_quiet gtA (by rfl) (by rfl) (fun K_ hK_ => ?_); go_big_quiet_op; refine hK_ _ ?_; clear hK_ K_)
                    (refine tree_quiet gtA (by rfl) (by rfl) (fun K_ hK_ => ?_); go_big_quiet_op; refine hK_ _ ?_; clear hK_ K_)
                    (refine tree_quiet gtA (by rfl) (by rfl) (fun K_ hK_ => ?_); go_big_quiet_op; refine hK_ _ ?_; clear hK_ K_)
                    (refine tree_quiet gtA (by rfl) (by rfl) (fun K_ hK_ => ?_); go_big_quiet_op; refine hK_ _ ?_; clear hK_ K_)
                    (refine tree_quiet gtA (by rfl) (by rfl) (fun K_ hK_ => ?_); go_big_quiet_op; refine hK_ _ ?_; clear hK_ K_)
                    (refine tree_quiet gtA (by rfl) (by rfl) (fun K_ hK_ => ?_); go_big_quiet_op; refine hK_ _ ?_; clear hK_ K_)
                    (refine tree_quiet gtA (by rfl) (by rfl) (fun K_ hK_ => ?_); go_big_quiet_op; refine hK_ _ ?_; clear hK_ K_)
                    (refine tree_quiet gtA (by rfl) (by rfl) (fun K_ hK_ => ?_); go_big_quiet_op; refine hK_ _ ?_; clear hK_ K_)
                    (refine tree_run gtA (by rfl) (by rfl) (fun K_ hK_ => ?_); have HK_ := Lib.hid hK_; clear hK_; go_wp2_with ((go_at_call 26; (with_reducible refine (HGU.out _ (by exact blw)).mono ?_); rintro e w5 ⟨rfl, hb5⟩; have h5c := bc hb5; have h5f := bf hb5; have h5z := hb5.size; try simp only [World.size_alloc, World.size_drew] at h5z)); refine HK_.out _ _ (wld_ofA) ?_; clear HK_)
                    (refine tree_quiet gtA (by rfl) (by rfl) (fun K_ hK_ => ?_); go_big_quiet_op; refine hK_ _ ?_; clear hK_ K_)
                    (refine tree_quiet gtA (by rfl) (by rfl) (fun K_ hK_ => ?_); go_big_quiet_op; refine hK_ _ ?_; clear hK_ K_)
                    refine tree_nil ?_
                    clear hG_
                    have hb5u : Below w3.heap.size w3 w5 := by exact blw
                    have HB5 := Lib.hid (HB3.out.trans (hb5u.mono HB3.out.size))
                    clear hb5u
                    go_wp2_with fail
                    go_roundw
                    case rel => exact ⟨1 + 1, by decide, by first | rfl | go_num, HB5.out⟩
                    case measure => simp [Go.RowKit.intOf]
                · have dM : decide ((nd : Int) ≤ ((maxB lb : Nat) : Int) + ((maxB rb : Nat) : Int)) = true := by simp; omega
                  obtain ⟨hbad, _⟩ | ⟨_, hno, rfl⟩ | ⟨_, r1, r2, g, hok, _, hp⟩ := hres
                  · exfalso
                    unfold badP at hbad
                    omega
                  · clear hno
                    go_wp2_with fail
                    go_roundw
                    case rel => exact ⟨1 + 1, by decide, by first | rfl | go_num, HB3.out⟩
                    case measure => simp [Go.RowKit.intOf]
                  · exact absurd ((HGO.out 1 (by decide) 6 rfl _ _).1 hok).2.2 (by rw [HDL.out]; exact hM)
              · go_wp2_with fail
                refine (HWK.out 2 (by decide) 2 rfl wr (HB1.out.trans (HB.out.mono HB1.out.size))).mono ?_
                rintro e w2 ⟨v, rfl, ⟨a9, c9, rfl, ho9, _, _, _⟩, hb2⟩
                have HB2 := Lib.hid (HB.out.trans (hb2.mono HB.out.size))
                have HRD := Lib.hid (pread_any 6 a9 _ c9 (gridB 2 lb rb ds) 300 w2 (has_of_owns ho9) rfl (by have := HGL.out 2; omega))
                clear ho9 hb2
                go_wp2_with fail
                refine HRD.out.mono ?_
                rintro e w3 ⟨hres, hb3⟩
                have HB3 := Lib.hid (HB2.out.trans (hb3.mono HB2.out.size))
                have V3 := Lib.hid ((HB3.out.block _ m3).trans Y3.out)
                have q3 := fun o => cell_of_heap V3.out o
                have o3 := (Array.getElem?_eq_some_iff.1 V3.out).1
                clear hb3 HRD
                by_cases hM : maxB lb + maxB rb < nd
                · have dM : decide ((nd : Int) ≤ ((maxB lb : Nat) : Int) + ((maxB rb : Nat) : Int)) = false := by simp; omega
                  obtain ⟨hbad, _⟩ | ⟨_, hno, _⟩ | ⟨_, r1, r2, g, hok, rfl, hp⟩ := hres
                  · exfalso
                    unfold badP at hbad
                    omega
                  · exact absurd ((HGO.out 2 (by decide) 6 rfl _ _).2 ⟨rfl, rfl, by rw [HDL.out]; exact hM⟩) (hno _ _)
                  · have hr12 := (HGO.out 2 (by decide) 6 rfl _ _).1 hok
                    obtain ⟨rfl, rfl, _⟩ := hr12
                    have HGU := Lib.hid (fun (U : World) (hU : Below w3.heap.size w3 U) => pget_any _ _ g _ _ 300 _ _ (k1 : Nat) (k2 : Nat) U (hp.below hU) hok (by decide) (by omega) (by omega))
                    rw [HGD.out 2 (by decide) 6 rfl (by rw [HDL.out]; exact hM) (k1 : Nat) (k2 : Nat), HXV.out, HYV.out] at HGU
                    have hS : Y < nd := by have := HX1.out; have := HY1.out; rw [HXV.out] at *; rw [HYV.out] at *; omega
                    obtain ⟨z, hz⟩ : ∃ z, ds[Y]? = some z := ⟨_, List.getElem?_eq_getElem (by rw [HDL.out]; exact hS)⟩
                    have hzb := HDB.out z (List.mem_of_getElem? hz)
                    obtain ⟨gd, od, rfl, hgd, hcd⟩ := (HHD.out.below (HB1.out.trans (HB3.out.mono HB1.out.size))).get (by rw [List.length_map, HDL.out]; omega)
                    have cz := hcd (Y) (.int .i16 z) (by simp [hz])
                    rw [show ds.getD (0 + Y) 0 = z from by rw [List.getD_eq_getElem?_getD, show 0 + Y = Y by omega, hz]; rfl] at HGU
                    have wS : IntKind.i64.wrap ((Y : Int)) = (Y : Int) := IntWalk.i64_in _ (by omega)
                    have wz : IntKind.i64.wrap z = z := IntWalk.i64_in _ (by omega)
                    clear hz hcd hp hok
                    go_wp2_with fail
                    refine wp_region_tree (.step 0 (.step 1 (.step 2 (.step 3 (.step 4 (.step 5 (.step 6 (.step 7 (.step 8 (.step 9 (.step 10 (.step 11 (.step 13 (.step 14 (.step 15 (.step 16 (.step 17 (.step 18 (.step 19 (.step 20 (.step 12 (.step 21 (.step 22 .nil))))))))))))))))))))))) (by kernel_rfl) (by kernel_rfl) (by kernel_rfl) (by kernel_rfl) (by intro _ _ d_ _ _ h_; cases d_ <;> first | exact h_ | (dsimp +zetaDelta only at h_ ⊢; exact h_)) (fun w' => ∃ p : Wld w3 [], w' = p.val) (wld_start _ _) ?_
                    have hG_ := @wldC w3
                    (refine tree_quiet gtA (by rfl) (by rfl) (fun K_ hK_ => ?_); go_big_quiet_op; refine hK_ _ ?_; clear hK_ K_)
                    (refine tree_quiet gtA (by rfl) (by rfl) (fun K_ hK_ => ?_); go_big_quiet_op; refine hK_ _ ?_; clear hK_ K_)
                    (refine tree_quiet gtA (by rfl) (by rfl) (fun K_ hK_ => ?_); go_big_quiet_op; refine hK_ _ ?_; clear hK_ K_)
                    (refine tree_quiet gtA (by rfl) (by rfl) (fun K_ hK_ => ?_); go_big_quiet_op; refine hK_ _ ?_; clear hK_ K_)
                    (refine tree_quiet gtA (by rfl) (by rfl) (fun K_ hK_ => ?_); go_big_quiet_op; refine hK_ _ ?_; clear hK_ K_)
                    (refine tree_quiet gtA (by rfl) (by rfl) (fun K_ hK_ => ?_); go_big_quiet_op; refine hK_ _ ?_; clear hK_ K_)
                    (refine tree_quiet gtA (by rfl) (by rfl) (fun K_ hK_ => ?_); go_big_quiet_op; refine hK_ _ ?_; clear hK_ K_)
                    (refine tree_quiet gtA (by rfl) (by rfl) (fun K_ hK_ => ?_); go_big_quiet_op; refine hK_ _ ?_; clear hK_ K_)
                    (refine tree_quiet gtA (by rfl) (by rfl) (fun K_ hK_ => ?_); go_big_quiet_op; refine hK_ _ ?_; clear hK_ K_)
                    (refine tree_quiet gtA (by rfl) (by rfl) (fun K_ hK_ => ?_); go_big_quiet_op; refine hK_ _ ?_; clear hK_ K_)
                    (refine tree_quiet gtA (by rfl) (by rfl) (fun K_ hK_ => ?_); go_big_quiet_op; refine hK_ _ ?_; clear hK_ K_)
                    (refine tree_quiet gtA (by rfl) (by rfl) (fun K_ hK_ => ?_); go_big_quiet_op; refine hK_ _ ?_; clear hK_ K_)
                    (refine tree_quiet gtA (by rfl) (by rfl) (fun K_ hK_ => ?_); go_big_quiet_op; refine hK_ _ ?_; clear hK_ K_)
                    (refine tree_quiet gtA (by rfl) (by rfl) (fun K_ hK_ => ?_); go_big_quiet_op; refine hK_ _ ?_; clear hK_ K_)
                    (refine tree_quiet gtA (by rfl) (by rfl) (fun K_ hK_ => ?_); go_big_quiet_op; refine hK_ _ ?_; clear hK_ K_)
                    (refine tree_quiet gtA (by rfl) (by rfl) (fun K_ hK_ => ?_); go_big_quiet_op; refine hK_ _ ?_; clear hK_ K_)
                    (refine tree_quiet gtA (by rfl) (by rfl) (fun K_ hK_ => ?_); go_big_quiet_op; refine hK_ _ ?_; clear hK_ K_)
                    (refine tree_quiet gtA (by rfl) (by rfl) (fun K_ hK_ => ?_); go_big_quiet_op; refine hK_ _ ?_; clear hK_ K_)
                    (refine tree_quiet gtA (by rfl) (by rfl) (fun K_ hK_ => ?_); go_big_quiet_op; refine hK_ _ ?_; clear hK_ K_)
                    (refine tree_quiet gtA (by rfl) (by rfl) (fun K_ hK_ => ?_); go_big_quiet_op; refine hK_ _ ?_; clear hK_ K_)
                    (refine tree_run gtA (by rfl) (by rfl) (fun K_ hK_ => ?_); have HK_ := Lib.hid hK_; clear hK_; go_wp2_with ((go_at_call 26; (with_reducible refine (HGU.out _ (by exact blw)).mono ?_); rintro e w5 ⟨rfl, hb5⟩; have h5c := bc hb5; have h5f := bf hb5; have h5z := hb5.size; try simp only [World.size_alloc, World.size_drew] at h5z)); refine HK_.out _ _ (wld_ofA) ?_; clear HK_)
                    (refine tree_quiet gtA (by rfl) (by rfl) (fun K_ hK_ => ?_); go_big_quiet_op; refine hK_ _ ?_; clear hK_ K_)
                    (refine tree_quiet gtA (by rfl) (by rfl) (fun K_ hK_ => ?_); go_big_quiet_op; refine hK_ _ ?_; clear hK_ K_)
                    refine tree_nil ?_
                    clear hG_
                    have hb5u : Below w3.heap.size w3 w5 := by exact blw
                    have HB5 := Lib.hid (HB3.out.trans (hb5u.mono HB3.out.size))
                    clear hb5u
                    go_wp2_with fail
                    go_roundw
                    case rel => exact ⟨2 + 1, by decide, by first | rfl | go_num, HB5.out⟩
                    case measure => simp [Go.RowKit.intOf]
                · have dM : decide ((nd : Int) ≤ ((maxB lb : Nat) : Int) + ((maxB rb : Nat) : Int)) = true := by simp; omega
                  obtain ⟨hbad, _⟩ | ⟨_, hno, rfl⟩ | ⟨_, r1, r2, g, hok, _, hp⟩ := hres
                  · exfalso
                    unfold badP at hbad
                    omega
                  · clear hno
                    go_wp2_with fail
                    go_roundw
                    case rel => exact ⟨2 + 1, by decide, by first | rfl | go_num, HB3.out⟩
                    case measure => simp [Go.RowKit.intOf]
                  · exact absurd ((HGO.out 2 (by decide) 6 rfl _ _).1 hok).2.2 (by rw [HDL.out]; exact hM)
            · obtain rfl : j = 3 := by omega
              go_wp2_with fail
              go_ret
              exact ⟨rfl, HB1.out.trans (HB.out.mono HB1.out.size)⟩
        · have dy : decide ((k2 : Int) < (nr : Int)) = false := by simp; omega
          have HYV := Lib.hid (show (give22 1 rb (k2 : Nat)).1 = 0 from by unfold give22; rw [if_neg (by rw [HRL.out]; omega)])
          go_wp2_with fail
          go_loopw [85] (fun i wr => ∃ j : Nat, j ≤ 3 ∧ i = .int .i64 (j : Nat) ∧ Below w1.heap.size w1 wr) (fun i _ => (3 - Go.RowKit.intOf i).toNat)
          case atStart => exact ⟨0, by decide, rfl, brefl _⟩
          case round =>
            obtain ⟨j, hj, rfl, hb⟩ := hrel
            rename World => wr
            have HB := Lib.hid hb
            have R3 := Lib.hid ((hb.block _ m3).trans Y3.out)
            have q3 := fun o => cell_of_heap R3.out o
            have n3 := (Array.getElem?_eq_some_iff.1 R3.out).1
            clear hb
            by_cases hlt : j < 3
            · have hj3 : j = 0 ∨ j = 1 ∨ j = 2 := by omega
              rcases hj3 with rfl | rfl | rfl
              · go_wp2_with fail
                refine (HWK.out 0 (by decide) 0 rfl wr (HB1.out.trans (HB.out.mono HB1.out.size))).mono ?_
                rintro e w2 ⟨v, rfl, ⟨a9, c9, rfl, ho9, _, _, _⟩, hb2⟩
                have HB2 := Lib.hid (HB.out.trans (hb2.mono HB.out.size))
                have HRD := Lib.hid (pread_any 2 a9 _ c9 (gridB 0 lb rb ds) 300 w2 (has_of_owns ho9) rfl (by have := HGL.out 0; omega))
                clear ho9 hb2
                go_wp2_with fail
                refine HRD.out.mono ?_
                rintro e w3 ⟨hres, hb3⟩
                have HB3 := Lib.hid (HB2.out.trans (hb3.mono HB2.out.size))
                have V3 := Lib.hid ((HB3.out.block _ m3).trans Y3.out)
                have q3 := fun o => cell_of_heap V3.out o
                have o3 := (Array.getElem?_eq_some_iff.1 V3.out).1
                clear hb3 HRD
                by_cases hM : maxB lb + maxB rb < nd
                · have dM : decide ((nd : Int) ≤ ((maxB lb : Nat) : Int) + ((maxB rb : Nat) : Int)) = false := by simp; omega
                  obtain ⟨hbad, _⟩ | ⟨_, hno, _⟩ | ⟨_, r1, r2, g, hok, rfl, hp⟩ := hres
                  · exfalso
                    unfold badP at hbad
                    omega
                  · exact absurd ((HGO.out 0 (by decide) 2 rfl _ _).2 ⟨rfl, rfl, by rw [HDL.out]; exact hM⟩) (hno _ _)
                  · have hr12 := (HGO.out 0 (by decide) 2 rfl _ _).1 hok
                    obtain ⟨rfl, rfl, _⟩ := hr12
                    have HGU := Lib.hid (fun (U : World) (hU : Below w3.heap.size w3 U) => pget_any _ _ g _ _ 300 _ _ (k1 : Nat) (k2 : Nat) U (hp.below hU) hok (by decide) (by omega) (by omega))
                    rw [HGD.out 0 (by decide) 2 rfl (by rw [HDL.out]; exact hM) (k1 : Nat) (k2 : Nat), HXV.out, HYV.out] at HGU
                    have hS : 0 < nd := by have := HX1.out; have := HY1.out; rw [HXV.out] at *; rw [HYV.out] at *; omega
                    obtain ⟨z, hz⟩ : ∃ z, ds[0]? = some z := ⟨_, List.getElem?_eq_getElem (by rw [HDL.out]; exact hS)⟩
                    have hzb := HDB.out z (List.mem_of_getElem? hz)
                    obtain ⟨gd, od, rfl, hgd, hcd⟩ := (HHD.out.below (HB1.out.trans (HB3.out.mono HB1.out.size))).get (by rw [List.length_map, HDL.out]; omega)
                    have cz := hcd (0) (.int .i16 z) (by simp [hz])
                    rw [Nat.add_zero] at cz
                    rw [show ds.getD (0 + 0) 0 = z from by rw [List.getD_eq_getElem?_getD, show 0 + 0 = 0 by omega, hz]; rfl] at HGU
                    have wS : IntKind.i64.wrap ((0 : Int)) = (0 : Int) := IntWalk.i64_in _ (by omega)
                    have wz : IntKind.i64.wrap z = z := IntWalk.i64_in _ (by omega)
                    clear hz hcd hp hok
                    go_wp2_with fail
                    refine wp_region_tree (.step 0 (.step 1 (.step 2 (.step 3 (.step 4 (.step 5 (.step 6 (.step 7 (.step 8 (.step 9 (.step 10 (.step 11 (.step 13 (.step 14 (.step 15 (.step 16 (.step 17 (.step 18 (.step 19 (.step 20 (.step 12 (.step 21 (.step 22 .nil))))))))))))))))))))))) (by kernel_rfl) (by kernel_rfl) (by kernel_rfl) (by kernel_rfl) (by intro _ _ d_ _ _ h_; cases d_ <;> first | exact h_ | (dsimp +zetaDelta only at h_ ⊢; exact h_)) (fun w' => ∃ p : Wld w3 [], w' = p.val) (wld_start _ _) ?_
                    have hG_ := @wldC w3
                    (refine tree_quiet gtA (by rfl) (by rfl) (fun K_ hK_ => ?_); go_big_quiet_op; refine hK_ _ ?_; clear hK_ K_)
                    (refine tree_quiet gtA (by rfl) (by rfl) (fun K_ hK_ => ?_); go_big_quiet_op; refine hK_ _ ?_; clear hK_ K_)
                    (refine tree_quiet gtA (by rfl) (by rfl) (fun K_ hK_ => ?_); go_big_quiet_op; refine hK_ _ ?_; clear hK_ K_)
                    (refine tree_quiet gtA (by rfl) (by rfl) (fun K_ hK_ => ?_); go_big_quiet_op; refine hK_ _ ?_; clear hK_ K_)
                    (refine tree_quiet gtA (by rfl) (by rfl) (fun K_ hK_ => ?_); go_big_quiet_op; refine hK_ _ ?_; clear hK_ K_)
                    (refine tree_quiet gtA (by rfl) (by rfl) (fun K_ hK_ => ?_); go_big_quiet_op; refine hK_ _ ?_; clear hK_ K_)
                    (refine tree_quiet gtA (by rfl) (by rfl) (fun K_ hK_ => ?_); go_big_quiet_op; refine hK_ _ ?_; clear hK_ K_)
                    (refine tree_quiet gtA (by rfl) (by rfl) (fun K_ hK_ => ?_); go_big_quiet_op; refine hK_ _ ?_; clear hK_ K_)
                    (refine tree_quiet gtA (by rfl) (by rfl) (fun K_ hK_ => ?_); go_big_quiet_op; refine hK_ _ ?_; clear hK_ K_)
                    (refine tree_quiet gtA (by rfl) (by rfl) (fun K_ hK_ => ?_); go_big_quiet_op; refine hK_ _ ?_; clear hK_ K_)
                    (refine tree_quiet gtA (by rfl) (by rfl) (fun K_ hK_ => ?_); go_big_quiet_op; refine hK_ _ ?_; clear hK_ K_)
                    (refine tree_quiet gtA (by rfl) (by rfl) (fun K_ hK_ => ?_); go_big_quiet_op; refine hK_ _ ?_; clear hK_ K_)
                    (refine tree_quiet gtA (by rfl) (by rfl) (fun K_ hK_ => ?_); go_big_quiet_op; refine hK_ _ ?_; clear hK_ K_)
                    (refine tree_quiet gtA (by rfl) (by rfl) (fun K_ hK_ => ?_); go_big_quiet_op; refine hK_ _ ?_; clear hK_ K_)
                    (refine tree_quiet gtA (by rfl) (by rfl) (fun K_ hK_ => ?_); go_big_quiet_op; refine hK_ _ ?_; clear hK_ K_)
                    (refine tree_quiet gtA (by rfl) (by rfl) (fun K_ hK_ => ?_); go_big_quiet_op; refine hK_ _ ?_; clear hK_ K_)
                    (refine tree_quiet gtA (by rfl) (by rfl) (fun K_ hK_ => ?_); go_big_quiet_op; refine hK_ _ ?_; clear hK_ K_)
                    (refine tree_quiet gtA (by rfl) (by rfl) (fun K_ hK_ => ?_); go_big_quiet_op; refine hK_ _ ?_; clear hK_ K_)
                    (refine tree_quiet gtA (by rfl) (by rfl) (fun K_ hK_ => ?_); go_big_quiet_op; refine hK_ _ ?_; clear hK_ K_)
                    (refine tree_quiet gtA (by rfl) (by rfl) (fun K_ hK_ => ?_); go_big_quiet_op; refine hK_ _ ?_; clear hK_ K_)
                    (refine tree_run gtA (by rfl) (by rfl) (fun K_ hK_ => ?_); have HK_ := Lib.hid hK_; clear hK_; go_wp2_with ((go_at_call 26; (with_reducible refine (HGU.out _ (by exact blw)).mono ?_); rintro e w5 ⟨rfl, hb5⟩; have h5c := bc hb5; have h5f := bf hb5; have h5z := hb5.size; try simp only [World.size_alloc, World.size_drew] at h5z)); refine HK_.out _ _ (wld_ofA) ?_; clear HK_)
                    (refine tree_quiet gtA (by rfl) (by rfl) (fun K_ hK_ => ?_); go_big_quiet_op; refine hK_ _ ?_; clear hK_ K_)
                    (refine tree_quiet gtA (by rfl) (by rfl) (fun K_ hK_ => ?_); go_big_quiet_op; refine hK_ _ ?_; clear hK_ K_)
                    refine tree_nil ?_
                    clear hG_
                    have hb5u : Below w3.heap.size w3 w5 := by exact blw
                    have HB5 := Lib.hid (HB3.out.trans (hb5u.mono HB3.out.size))
                    clear hb5u
                    go_wp2_with fail
                    go_roundw
                    case rel => exact ⟨0 + 1, by decide, by first | rfl | go_num, HB5.out⟩
                    case measure => simp [Go.RowKit.intOf]
                · have dM : decide ((nd : Int) ≤ ((maxB lb : Nat) : Int) + ((maxB rb : Nat) : Int)) = true := by simp; omega
                  obtain ⟨hbad, _⟩ | ⟨_, hno, rfl⟩ | ⟨_, r1, r2, g, hok, _, hp⟩ := hres
                  · exfalso
                    unfold badP at hbad
                    omega
                  · clear hno
                    go_wp2_with fail
                    go_roundw
                    case rel => exact ⟨0 + 1, by decide, by first | rfl | go_num, HB3.out⟩
                    case measure => simp [Go.RowKit.intOf]
                  · exact absurd ((HGO.out 0 (by decide) 2 rfl _ _).1 hok).2.2 (by rw [HDL.out]; exact hM)
              · go_wp2_with fail
                refine (HWK.out 1 (by decide) 1 rfl wr (HB1.out.trans (HB.out.mono HB1.out.size))).mono ?_
                rintro e w2 ⟨v, rfl, ⟨a9, c9, rfl, ho9, _, _, _⟩, hb2⟩
                have HB2 := Lib.hid (HB.out.trans (hb2.mono HB.out.size))
                have HRD := Lib.hid (pread_any 6 a9 _ c9 (gridB 1 lb rb ds) 300 w2 (has_of_owns ho9) rfl (by have := HGL.out 1; omega))
                clear ho9 hb2
                go_wp2_with fail
                refine HRD.out.mono ?_
                rintro e w3 ⟨hres, hb3⟩
                have HB3 := Lib.hid (HB2.out.trans (hb3.mono HB2.out.size))
                have V3 := Lib.hid ((HB3.out.block _ m3).trans Y3.out)
                have q3 := fun o => cell_of_heap V3.out o
                have o3 := (Array.getElem?_eq_some_iff.1 V3.out).1
                clear hb3 HRD
                by_cases hM : maxB lb + maxB rb < nd
                · have dM : decide ((nd : Int) ≤ ((maxB lb : Nat) : Int) + ((maxB rb : Nat) : Int)) = false := by simp; omega
                  obtain ⟨hbad, _⟩ | ⟨_, hno, _⟩ | ⟨_, r1, r2, g, hok, rfl, hp⟩ := hres
                  · exfalso
                    unfold badP at hbad
                    omega
                  · exact absurd ((HGO.out 1 (by decide) 6 rfl _ _).2 ⟨rfl, rfl, by rw [HDL.out]; exact hM⟩) (hno _ _)
                  · have hr12 := (HGO.out 1 (by decide) 6 rfl _ _).1 hok
                    obtain ⟨rfl, rfl, _⟩ := hr12
                    have HGU := Lib.hid (fun (U : World) (hU : Below w3.heap.size w3 U) => pget_any _ _ g _ _ 300 _ _ (k1 : Nat) (k2 : Nat) U (hp.below hU) hok (by decide) (by omega) (by omega))
                    rw [HGD.out 1 (by decide) 6 rfl (by rw [HDL.out]; exact hM) (k1 : Nat) (k2 : Nat), HXV.out, HYV.out] at HGU
                    have hS : 0 < nd := by have := HX1.out; have := HY1.out; rw [HXV.out] at *; rw [HYV.out] at *; omega
                    obtain ⟨z, hz⟩ : ∃ z, ds[0]? = some z := ⟨_, List.getElem?_eq_getElem (by rw [HDL.out]; exact hS)⟩
                    have hzb := HDB.out z (List.mem_of_getElem? hz)
                    obtain ⟨gd, od, rfl, hgd, hcd⟩ := (HHD.out.below (HB1.out.trans (HB3.out.mono HB1.out.size))).get (by rw [List.length_map, HDL.out]; omega)
                    have cz := hcd (0) (.int .i16 z) (by simp [hz])
                    rw [Nat.add_zero] at cz
                    rw [show ds.getD (0 + 0) 0 = z from by rw [List.getD_eq_getElem?_getD, show 0 + 0 = 0 by omega, hz]; rfl] at HGU
                    have wS : IntKind.i64.wrap ((0 : Int)) = (0 : Int) := IntWalk.i64_in _ (by omega)
                    have wz : IntKind.i64.wrap z = z := IntWalk.i64_in _ (by omega)
                    clear hz hcd hp hok
                    go_wp2_with fail
                    refine wp_region_tree (.step 0 (.step 1 (.step 2 (.step 3 (.step 4 (.step 5 (.step 6 (.step 7 (.step 8 (.step 9 (.step 10 (.step 11 (.step 13 (.step 14 (.step 15 (.step 16 (.step 17 (.step 18 (.step 19 (.step 20 (.step 12 (.step 21 (.step 22 .nil))))))))))))))))))))))) (by kernel_rfl) (by kernel_rfl) (by kernel_rfl) (by kernel_rfl) (by intro _ _ d_ _ _ h_; cases d_ <;> first | exact h_ | (dsimp +zetaDelta only at h_ ⊢; exact h_)) (fun w' => ∃ p : Wld w3 [], w' = p.val) (wld_start _ _) ?_
                    have hG_ := @wldC w3
                    (refine tree_quiet gtA (by rfl) (by rfl) (fun K_ hK_ => ?_); go_big_quiet_op; refine hK_ _ ?_; clear hK_ K_)
                    (refine tree_quiet gtA (by rfl) (by rfl) (fun K_ hK_ => ?_); go_big_quiet_op; refine hK_ _ ?_; clear hK_ K_)
                    (refine tree_quiet gtA (by rfl) (by rfl) (fun K_ hK_ => ?_); go_big_quiet_op; refine hK_ _ ?_; clear hK_ K_)
                    (refine tree_quiet gtA (by rfl) (by rfl) (fun K_ hK_ => ?_); go_big_quiet_op; refine hK_ _ ?_; clear hK_ K_)
                    (refine tree_quiet gtA (by rfl) (by rfl) (fun K_ hK_ => ?_); go_big_quiet_op; refine hK_ _ ?_; clear hK_ K_)
                    (refine tree_quiet gtA (by rfl) (by rfl) (fun K_ hK_ => ?_); go_big_quiet_op; refine hK_ _ ?_; clear hK_ K_)
                    (refine tree_quiet gtA (by rfl) (by rfl) (fun K_ hK_ => ?_); go_big_quiet_op; refine hK_ _ ?_; clear hK_ K_)
                    (refine tree_quiet gtA (by rfl) (by rfl) (fun K_ hK_ => ?_); go_big_quiet_op; refine hK_ _ ?_; clear hK_ K_)
                    (refine tree_quiet gtA (by rfl) (by rfl) (fun K_ hK_ => ?_); go_big_quiet_op; refine hK_ _ ?_; clear hK_ K_)
                    (refine tree_quiet gtA (by rfl) (by rfl) (fun K_ hK_ => ?_); go_big_quiet_op; refine hK_ _ ?_; clear hK_ K_)
                    (refine tree_quiet gtA (by rfl) (by rfl) (fun K_ hK_ => ?_); go_big_quiet_op; refine hK_ _ ?_; clear hK_ K_)
                    (refine tree_quiet gtA (by rfl) (by rfl) (fun K_ hK_ => ?_); go_big_quiet_op; refine hK_ _ ?_; clear hK_ K_)
                    (refine tree_quiet gtA (by rfl) (by rfl) (fun K_ hK_ => ?_); go_big_quiet_op; refine hK_ _ ?_; clear hK_ K_)
                    (refine tree_quiet gtA (by rfl) (by rfl) (fun K_ hK_ => ?_); go_big_quiet_op; refine hK_ _ ?_; clear hK_ K_)
                    (refine tree_quiet gtA (by rfl) (by rfl) (fun K_ hK_ => ?_); go_big_quiet_op; refine hK_ _ ?_; clear hK_ K_)
                    (refine tree_quiet gtA (by rfl) (by rfl) (fun K_ hK_ => ?_); go_big_quiet_op; refine hK_ _ ?_; clear hK_ K_)
                    (refine tree_quiet gtA (by rfl) (by rfl) (fun K_ hK_ => ?_); go_big_quiet_op; refine hK_ _ ?_; clear hK_ K_)
                    (refine tree_quiet gtA (by rfl) (by rfl) (fun K_ hK_ => ?_); go_big_quiet_op; refine hK_ _ ?_; clear hK_ K_)
                    (refine tree_quiet gtA (by rfl) (by rfl) (fun K_ hK_ => ?_); go_big_quiet_op; refine hK_ _ ?_; clear hK_ K_)
                    (refine tree_quiet gtA (by rfl) (by rfl) (fun K_ hK_ => ?_); go_big_quiet_op; refine hK_ _ ?_; clear hK_ K_)
                    (refine tree_run gtA (by rfl) (by rfl) (fun K_ hK_ => ?_); have HK_ := Lib.hid hK_; clear hK_; go_wp2_with ((go_at_call 26; (with_reducible refine (HGU.out _ (by exact blw)).mono ?_); rintro e w5 ⟨rfl, hb5⟩; have h5c := bc hb5; have h5f := bf hb5; have h5z := hb5.size; try simp only [World.size_alloc, World.size_drew] at h5z)); refine HK_.out _ _ (wld_ofA) ?_; clear HK_)
                    (refine tree_quiet gtA (by rfl) (by rfl) (fun K_ hK_ => ?_); go_big_quiet_op; refine hK_ _ ?_; clear hK_ K_)
                    (refine tree_quiet gtA (by rfl) (by rfl) (fun K_ hK_ => ?_); go_big_quiet_op; refine hK_ _ ?_; clear hK_ K_)
                    refine tree_nil ?_
                    clear hG_
                    have hb5u : Below w3.heap.size w3 w5 := by exact blw
                    have HB5 := Lib.hid (HB3.out.trans (hb5u.mono HB3.out.size))
                    clear hb5u
                    go_wp2_with fail
                    go_roundw
                    case rel => exact ⟨1 + 1, by decide, by first | rfl | go_num, HB5.out⟩
                    case measure => simp [Go.RowKit.intOf]
                · have dM : decide ((nd : Int) ≤ ((maxB lb : Nat) : Int) + ((maxB rb : Nat) : Int)) = true := by simp; omega
                  obtain ⟨hbad, _⟩ | ⟨_, hno, rfl⟩ | ⟨_, r1, r2, g, hok, _, hp⟩ := hres
                  · exfalso
                    unfold badP at hbad
                    omega
                  · clear hno
                    go_wp2_with fail
                    go_roundw
                    case rel => exact ⟨1 + 1, by decide, by first | rfl | go_num, HB3.out⟩
                    case measure => simp [Go.RowKit.intOf]
                  · exact absurd ((HGO.out 1 (by decide) 6 rfl _ _).1 hok).2.2 (by rw [HDL.out]; exact hM)
              · go_wp2_with fail
                refine (HWK.out 2 (by decide) 2 rfl wr (HB1.out.trans (HB.out.mono HB1.out.size))).mono ?_
                rintro e w2 ⟨v, rfl, ⟨a9, c9, rfl, ho9, _, _, _⟩, hb2⟩
                have HB2 := Lib.hid (HB.out.trans (hb2.mono HB.out.size))
                have HRD := Lib.hid (pread_any 6 a9 _ c9 (gridB 2 lb rb ds) 300 w2 (has_of_owns ho9) rfl (by have := HGL.out 2; omega))
                clear ho9 hb2
                go_wp2_with fail
                refine HRD.out.mono ?_
                rintro e w3 ⟨hres, hb3⟩
                have HB3 := Lib.hid (HB2.out.trans (hb3.mono HB2.out.size))
                have V3 := Lib.hid ((HB3.out.block _ m3).trans Y3.out)
                have q3 := fun o => cell_of_heap V3.out o
                have o3 := (Array.getElem?_eq_some_iff.1 V3.out).1
                clear hb3 HRD
                by_cases hM : maxB lb + maxB rb < nd
                · have dM : decide ((nd : Int) ≤ ((maxB lb : Nat) : Int) + ((maxB rb : Nat) : Int)) = false := by simp; omega
                  obtain ⟨hbad, _⟩ | ⟨_, hno, _⟩ | ⟨_, r1, r2, g, hok, rfl, hp⟩ := hres
                  · exfalso
                    unfold badP at hbad
                    omega
                  · exact absurd ((HGO.out 2 (by decide) 6 rfl _ _).2 ⟨rfl, rfl, by rw [HDL.out]; exact hM⟩) (hno _ _)
                  · have hr12 := (HGO.out 2 (by decide) 6 rfl _ _).1 hok
                    obtain ⟨rfl, rfl, _⟩ := hr12
                    have HGU := Lib.hid (fun (U : World) (hU : Below w3.heap.size w3 U) => pget_any _ _ g _ _ 300 _ _ (k1 : Nat) (k2 : Nat) U (hp.below hU) hok (by decide) (by omega) (by omega))
                    rw [HGD.out 2 (by decide) 6 rfl (by rw [HDL.out]; exact hM) (k1 : Nat) (k2 : Nat), HXV.out, HYV.out] at HGU
                    have hS : 0 < nd := by have := HX1.out; have := HY1.out; rw [HXV.out] at *; rw [HYV.out] at *; omega
                    obtain ⟨z, hz⟩ : ∃ z, ds[0]? = some z := ⟨_, List.getElem?_eq_getElem (by rw [HDL.out]; exact hS)⟩
                    have hzb := HDB.out z (List.mem_of_getElem? hz)
                    obtain ⟨gd, od, rfl, hgd, hcd⟩ := (HHD.out.below (HB1.out.trans (HB3.out.mono HB1.out.size))).get (by rw [List.length_map, HDL.out]; omega)
                    have cz := hcd (0) (.int .i16 z) (by simp [hz])
                    rw [Nat.add_zero] at cz
                    rw [show ds.getD (0 + 0) 0 = z from by rw [List.getD_eq_getElem?_getD, show 0 + 0 = 0 by omega, hz]; rfl] at HGU
                    have wS : IntKind.i64.wrap ((0 : Int)) = (0 : Int) := IntWalk.i64_in _ (by omega)
                    have wz : IntKind.i64.wrap z = z := IntWalk.i64_in _ (by omega)
                    clear hz hcd hp hok
                    go_wp2_with fail
                    refine wp_region_tree (.step 0 (.step 1 (.step 2 (.step 3 (.step 4 (.step 5 (.step 6 (.step 7 (.step 8 (.step 9 (.step 10 (.step 11 (.step 13 (.step 14 (.step 15 (.step 16 (.step 17 (.step 18 (.step 19 (.step 20 (.step 12 (.step 21 (.step 22 .nil))))))))))))))))))))))) (by kernel_rfl) (by kernel_rfl) (by kernel_rfl) (by kernel_rfl) (by intro _ _ d_ _ _ h_; cases d_ <;> first | exact h_ | (dsimp +zetaDelta only at h_ ⊢; exact h_)) (fun w' => ∃ p : Wld w3 [], w' = p.val) (wld_start _ _) ?_
                    have hG_ := @wldC w3
                    (refine tree_quiet gtA (by rfl) (by rfl) (fun K_ hK_ => ?_); go_big_quiet_op; refine hK_ _ ?_; clear hK_ K_)
                    (refine tree_quiet gtA (by rfl) (by rfl) (fun K_ hK_ => ?_); go_big_quiet_op; refine hK_ _ ?_; clear hK_ K_)
                    (refine tree_quiet gtA (by rfl) (by rfl) (fun K_ hK_ => ?_); go_big_quiet_op; refine hK_ _ ?_; clear hK_ K_)
                    (refine tree_quiet gtA (by rfl) (by rfl) (fun K_ hK_ => ?_); go_big_quiet_op; refine hK_ _ ?_; clear hK_ K_)
                    (refine tree_quiet gtA (by rfl) (by rfl) (fun K_ hK_ => ?_); go_big_quiet_op; refine hK_ _ ?_; clear hK_ K_)
                    (refine tree_quiet gtA (by rfl) (by rfl) (fun K_ hK_ => ?_); go_big_quiet_op; refine hK_ _ ?_; clear hK_ K_)
                    (refine tree_quiet gtA (by rfl) (by rfl) (fun K_ hK_ => ?_); go_big_quiet_op; refine hK_ _ ?_; clear hK_ K_)
                    (refine tree_quiet gtA (by rfl) (by rfl) (fun K_ hK_ => ?_); go_big_quiet_op; refine hK_ _ ?_; clear hK_ K_)
                    (refine tree_quiet gtA (by rfl) (by rfl) (fun K_ hK_ => ?_); go_big_quiet_op; refine hK_ _ ?_; clear hK_ K_)
                    (refine tree_quiet gtA (by rfl) (by rfl) (fun K_ hK_ => ?_); go_big_quiet_op; refine hK_ _ ?_; clear hK_ K_)
                    (refine tree_quiet gtA (by rfl) (by rfl) (fun K_ hK_ => ?_); go_big_quiet_op; refine hK_ _ ?_; clear hK_ K_)
                    (refine tree_quiet gtA (by rfl) (by rfl) (fun K_ hK_ => ?_); go_big_quiet_op; refine hK_ _ ?_; clear hK_ K_)
                    (refine tree_quiet gtA (by rfl) (by rfl) (fun K_ hK_ => ?_); go_big_quiet_op; refine hK_ _ ?_; clear hK_ K_)
                    (refine tree_quiet gtA (by rfl) (by rfl) (fun K_ hK_ => ?_); go_big_quiet_op; refine hK_ _ ?_; clear hK_ K_)
                    (refine tree_quiet gtA (by rfl) (by rfl) (fun K_ hK_ => ?_); go_big_quiet_op; refine hK_ _ ?_; clear hK_ K_)
                    (refine tree_quiet gtA (by rfl) (by rfl) (fun K_ hK_ => ?_); go_big_quiet_op; refine hK_ _ ?_; clear hK_ K_)
                    (refine tree_quiet gtA (by rfl) (by rfl) (fun K_ hK_ => ?_); go_big_quiet_op; refine hK_ _ ?_; clear hK_ K_)
                    (refine tree_quiet gtA (by rfl) (by rfl) (fun K_ hK_ => ?_); go_big_quiet_op; refine hK_ _ ?_; clear hK_ K_)
                    (refine tree_quiet gtA (by rfl) (by rfl) (fun K_ hK_ => ?_); go_big_quiet_op; refine hK_ _ ?_; clear hK_ K_)
                    (refine tree_quiet gtA (by rfl) (by rfl) (fun K_ hK_ => ?_); go_big_quiet_op; refine hK_ _ ?_; clear hK_ K_)
                    (refine tree_run gtA (by rfl) (by rfl) (fun K_ hK_ => ?_); have HK_ := Lib.hid hK_; clear hK_; go_wp2_with ((go_at_call 26; (with_reducible refine (HGU.out _ (by exact blw)).mono ?_); rintro e w5 ⟨rfl, hb5⟩; have h5c := bc hb5; have h5f := bf hb5; have h5z := hb5.size; try simp only [World.size_alloc, World.size_drew] at h5z)); refine HK_.out _ _ (wld_ofA) ?_; clear HK_)
                    (refine tree_quiet gtA (by rfl) (by rfl) (fun K_ hK_ => ?_); go_big_quiet_op; refine hK_ _ ?_; clear hK_ K_)
                    (refine tree_quiet gtA (by rfl) (by rfl) (fun K_ hK_ => ?_); go_big_quiet_op; refine hK_ _ ?_; clear hK_ K_)
                    refine tree_nil ?_
                    clear hG_
                    have hb5u : Below w3.heap.size w3 w5 := by exact blw
                    have HB5 := Lib.hid (HB3.out.trans (hb5u.mono HB3.out.size))
                    clear hb5u
                    go_wp2_with fail
                    go_roundw
                    case rel => exact ⟨2 + 1, by decide, by first | rfl | go_num, HB5.out⟩
                    case measure => simp [Go.RowKit.intOf]
                · have dM : decide ((nd : Int) ≤ ((maxB lb : Nat) : Int) + ((maxB rb : Nat) : Int)) = true := by simp; omega
                  obtain ⟨hbad, _⟩ | ⟨_, hno, rfl⟩ | ⟨_, r1, r2, g, hok, _, hp⟩ := hres
                  · exfalso
                    unfold badP at hbad
                    omega
                  · clear hno
                    go_wp2_with fail
                    go_roundw
                    case rel => exact ⟨2 + 1, by decide, by first | rfl | go_num, HB3.out⟩
                    case measure => simp [Go.RowKit.intOf]
                  · exact absurd ((HGO.out 2 (by decide) 6 rfl _ _).1 hok).2.2 (by rw [HDL.out]; exact hM)
            · obtain rfl : j = 3 := by omega
              go_wp2_with fail
              go_ret
              exact ⟨rfl, HB1.out.trans (HB.out.mono HB1.out.size)⟩

open Go.ChangeShapes Go.WideShapes Go.ChangeAt Go.RowKit
open Go.ChangeMaps (open_string shut_string)

set_option maxRecDepth 100000 in
theorem pairForms_walks (H : Type) (enc : TypeId × Value → H) : Walks H enc 5 [60, 5, 5] := by
  intro W base args ds p hval hA _
  obtain ⟨v0, vs0, d0, ds0, p0, q0, hargs, rfl, rfl, h0, r0⟩ := trodAll_cons hA
  obtain ⟨v1, vs1, d1, ds1, p1, q1, rfl, rfl, rfl, h1, r1⟩ := trodAll_cons r0
  obtain ⟨v2, vs2, d2, ds2, p2, q2, rfl, rfl, rfl, h2, r2⟩ := trodAll_cons r1
  obtain ⟨rfl, rfl, rfl⟩ := trodAll_nil r2
  obtain rfl : args = #[v0, v1, v2] := by cases args; simp_all
  obtain ⟨al, cl, lb, ar, cr, rb, ad, cd, ds, rfl, hl, hr, hd, hb⟩ := open_grid (hval 0 60 v0 rfl rfl) h0
  obtain ⟨z1, rfl, t1⟩ := open_int Try.underlying5 (hval 1 5 v1 rfl rfl) h1
  obtain ⟨z2, rfl, t2⟩ := open_int Try.underlying5 (hval 2 5 v2 rfl rfl) h2
  obtain ⟨k1, rfl, b1⟩ := wf_u8 t1
  obtain ⟨k2, rfl, b2⟩ := wf_u8 t2
  exact pairForms_walk al _ cl lb ar _ cr rb ad _ cd ds k1 k2 W hl rfl hr rfl hd rfl hb b1 b2

set_option maxRecDepth 100000 in
theorem pairForms_lifted (os : Os) (started : os.Started) (H : Type) (enc : TypeId × Value → H) :
    ReturnsInHanded {} Try.checked os 5 .any (Rows.pairFormsSpec.pre6 enc Try.prog Try.f5 Rows.pairFormsRow.domain false) (Rows.pairFormsSpec.post enc Try.prog Try.f5 false true false false) :=
  lift_law (s := Rows.pairFormsSpec) (fn := Try.f5) started (by kernel_rfl) Try.func5
    (ChangeSpec.witness6 (enc := enc) (C := Try.checked) false ⟨#[], #[.agg #[.slice none 0 0, .slice none 0 0, .slice none 0 0], .int .u8 0, .int .u8 0], []⟩ 8 (by kernel_rfl) (by kernel_rfl) (by kernel_rfl) (by kernel_rfl))
    rfl rfl (fun ds h => by match ds, h with | [d0, d1, d2], _ => rfl) (by intro t ht; simp [Try.params5] at ht; first | (subst ht; exact ⟨by kernel_rfl, of_decide_eq_true (by kernel_rfl)⟩) | (obtain rfl | rfl := ht <;> exact ⟨by kernel_rfl, of_decide_eq_true (by kernel_rfl)⟩) | (obtain rfl | rfl | rfl := ht <;> exact ⟨by kernel_rfl, of_decide_eq_true (by kernel_rfl)⟩) | (obtain rfl | rfl | rfl | rfl := ht <;> exact ⟨by kernel_rfl, of_decide_eq_true (by kernel_rfl)⟩))
    (by rw [Try.params5]; exact pairForms_walks H enc)
theorem pairForms_over : Rows.pairFormsRow.holds Try.pinned (OpenSpec.ofChange Rows.pairFormsSpec) :=
  OpenClaim.holds_of_wide 5 Try.f5 rfl rfl rfl rfl rfl rfl rfl ⟨rfl, rfl, rfl, rfl, rfl⟩ rfl rfl rfl rfl rfl (by kernel_rfl) Try.func5 (by kernel_rfl)
    (of_decide_eq_true (by kernel_rfl)) (by unfold Func.isWrapper; first | (rw [if_pos (by decide +kernel)]; kernel_rfl) | (rw [if_neg (by decide +kernel)]; exact ⟨rfl, rfl⟩))
    (fun os started H enc _ => pairForms_lifted os started H enc)
theorem pairForms_proved : Rows.PairFormsSaid := pairForms_over
#print axioms pairForms_proved
end Go.Proofs.Ytaladlaffglkeaa
