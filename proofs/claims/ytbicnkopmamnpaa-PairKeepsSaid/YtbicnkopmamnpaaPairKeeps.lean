
/- PairKeeps returns true for every grid and every two bytes, and changes nothing: a subtable that was read stays, whatever becomes of the bytes. No condition beside the row's own. Written by tools/mkpairkeeps.py. -/
import Derived.Test.YtbicnkopmamnpaaJ21
import Derived.Test.YtbicnkopmamnpaaJ01
namespace Go.Proofs.Ytbicnkopmamnpaa
open Go.RowKit Go.Lib

set_option maxRecDepth 100000 in
set_option maxHeartbeats 12800000 in
theorem pairKeeps_walk (al : Option Addr) (nl cl : Nat) (lb : List UInt8) (ar : Option Addr) (nr cr : Nat) (rb : List UInt8) (ad : Option Addr) (nd cd : Nat) (ds : List Int) (k1 k2 : Nat) (w : World) (hl : Has w al (bytesV lb)) (hll : lb.length = nl) (hr : Has w ar (bytesV rb)) (hrl : rb.length = nr) (hd : Has w ad (ds.map (Value.int .i16))) (hdl : ds.length = nd) (hdb : ∀ x ∈ ds, -32768 ≤ x ∧ x ≤ 32767) (hk1 : k1 ≤ 255) (hk2 : k2 ≤ 255) :
    Calls Try.prog 13 #[.agg #[.slice al nl cl, .slice ar nr cr, .slice ad nd cd], .int .u8 (k1 : Nat), .int .u8 (k2 : Nat)] w fun e w' => e = .returned (.bool true) ∧ Below w.heap.size w w' := by
  have hAC := allocC
  have hAF := allocF
  have h1 := eqPtn
  have h2 := eqPte
  have h3 := eqPnn
  have h4 := eqPne
  have HSP := Lib.hid (fun W => speaks22_any W)
  have HHL := Lib.hid hl
  have HLL := Lib.hid hll
  have HHR := Lib.hid hr
  have HRL := Lib.hid hrl
  have HHD := Lib.hid hd
  have HDL := Lib.hid hdl
  have HDB := Lib.hid hdb
  clear hl hll hr hrl hd hdl hdb
  obtain ⟨A, hA⟩ : ∃ A, A = w.alloc (Obj.cells #[.slice al nl cl, .slice ar nr cr, .slice ad nd cd] 119) := ⟨_, rfl⟩
  have hbA : Below w.heap.size w A := by rw [hA]; exact balloc (brefl w) _
  have x3 : A.heap[w.heap.size]? = some (.cells #[.slice al nl cl, .slice ar nr cr, .slice ad nd cd] 119 (0, 0)) := by rw [hA]; exact (heap_push _ _ _).trans (if_pos rfl)
  have hzA := (Array.getElem?_eq_some_iff.1 x3).1
  have X3 := Lib.hid x3
  have HBA := Lib.hid hbA
  clear x3 hbA
  go_enter Try.func13, Try.ntmps13
  go_wp2_with fail
  rw [← hA]
  clear hA
  refine (HSP.out A).mono ?_
  rintro e w1 ⟨rfl, hb1⟩
  have HB1 := Lib.hid (HBA.out.trans (hb1.mono HBA.out.size))
  have Y3 := Lib.hid ((hb1.block _ hzA).trans X3.out)
  have q3 := fun o => cell_of_heap Y3.out o
  have m3 := (Array.getElem?_eq_some_iff.1 Y3.out).1
  clear hb1
  by_cases hbig : 20 < nl
  · have d1 : decide (20 < (nl : Int)) = true := by simp; omega
    go_wp2_with fail
    go_ret
    exact ⟨rfl, HB1.out⟩
  have d1 : decide (20 < (nl : Int)) = false := by simp; omega
  by_cases hbig2 : 20 < nr
  · have d2 : decide (20 < (nr : Int)) = true := by simp; omega
    go_wp2_with fail
    go_ret
    exact ⟨rfl, HB1.out⟩
  have d2 : decide (20 < (nr : Int)) = false := by simp; omega
  by_cases hbig3 : 600 < nd
  · have d3 : decide (600 < (nd : Int)) = true := by simp; omega
    go_wp2_with fail
    go_ret
    exact ⟨rfl, HB1.out⟩
  have d3 : decide (600 < (nd : Int)) = false := by simp; omega
  obtain ⟨K, hK⟩ : ∃ K, K = k1 % 3 := ⟨_, rfl⟩
  have hK2 : K ≤ 2 := by omega
  have wk1 : IntKind.i64.wrap (k1 : Int) = (k1 : Int) := IntWalk.i64_in _ (by omega)
  have wt : Int.tmod (k1 : Int) 3 = (K : Int) := by rw [Int.tmod_eq_emod_of_nonneg (by omega)]; omega
  have we : (k1 : Int) % 3 = (K : Int) := by omega
  have wK : IntKind.i64.wrap (K : Int) = (K : Int) := IntWalk.i64_in _ (by omega)
  have HW := Lib.hid (fun (X : World) (hX : Below w.heap.size w X) => wgrid_any K hK2 (K : Nat) rfl al nl cl lb ar nr cr rb ad nd cd ds X (HHL.out.below hX) HLL.out (by omega) (HHR.out.below hX) HRL.out (by omega) (HHD.out.below hX) HDL.out (by omega) HDB.out)
  have hGl := gridB_le K lb rb ds (by rw [HLL.out]; omega) (by rw [HRL.out]; omega) (by rw [HDL.out]; omega)
  have hGp : 0 < (gridB K lb rb ds).length := by rw [gridB_length]; omega
  generalize gridB K lb rb ds = bs at HW hGl hGp
  obtain ⟨N, hN⟩ : ∃ N, N = bs.length := ⟨_, rfl⟩
  rw [← hN] at hGl hGp
  have HN := Lib.hid hN
  clear hN hbig hbig2 hbig3 hK
  have hKK : K = 0 ∨ K = 1 ∨ K = 2 := by omega
  rcases hKK with rfl | rfl | rfl
  · go_wp2_with fail
    refine (HW.out w1 HB1.out).mono ?_
    rintro e w2 ⟨v, rfl, ⟨a9, c9', rfl, ho9, hnc9, hcm9, hA9⟩, hb2⟩
    rw [← HN.out] at ho9 hnc9 ⊢
    have HB2 := Lib.hid (HB1.out.trans (hb2.mono HB1.out.size))
    have Z3 := Lib.hid ((hb2.block _ m3).trans Y3.out)
    have q3 := fun o => cell_of_heap Z3.out o
    have m3 := (Array.getElem?_eq_some_iff.1 Z3.out).1
    obtain ⟨g9, cur, he9, hg9, hcur, hpos⟩ : ∃ g9 cur, a9 = some ⟨g9, 0, none⟩ ∧ w1.heap.size ≤ g9 ∧ w2.heap[g9]? = some (.cells cur 5 (0, 0)) ∧ cur.toList.take N = bytesV bs := by
      rcases ho9.2 with ⟨_, h0⟩ | ⟨g, cap, cur, hv, hg, hh, _, _, _, ht⟩
      · omega
      · injection hv with e1 e2 e3
        exact ⟨g, cur, e1, hg, hh, by simpa using ht⟩
    subst he9
    have HU8 := Lib.hid (show ∀ i, i < N → ∃ z, cur[i]? = some (.int .u8 z) from fun i hi => by
      have e1 : (bytesV bs)[i]? = some (.int .u8 (((bs[i]'(by rw [← HN.out]; exact hi)).toNat : Nat) : Int)) := by
        simp [bytesV, List.getElem?_eq_getElem (show i < bs.length by rw [← HN.out]; exact hi)]
      rw [← hpos, List.getElem?_take, if_pos hi] at e1
      exact ⟨_, by rw [← Array.getElem?_toList]; exact e1⟩)
    have HC9 := Lib.hid hcur
    have l9 := (Array.getElem?_eq_some_iff.1 hcur).1
    have HO9 := Lib.hid (has_of_owns ho9)
    have HRD := Lib.hid (pread_any 2 (some ⟨g9, 0, none⟩) N c9' bs 300 w2 (has_of_owns ho9) HN.out.symm (by omega))
    have hw0 : w.heap.size ≤ g9 := Nat.le_trans HB1.out.size hg9
    clear ho9 hb2 hcur hpos hA9
    go_wp2_with fail
    refine HRD.out.mono ?_
    rintro e w3 ⟨hres, hb3⟩
    have HRS := Lib.hid hres
    have HB3 := Lib.hid (HB2.out.trans (hb3.mono HB2.out.size))
    have V3 := Lib.hid ((hb3.block _ m3).trans Z3.out)
    have q3 := fun o => cell_of_heap V3.out o
    have m3 := (Array.getElem?_eq_some_iff.1 V3.out).1
    have HC93 := Lib.hid ((hb3.block _ l9).trans HC9.out)
    have l93 := Nat.lt_of_lt_of_le l9 hb3.size
    clear hb3 hres HRD
    obtain ⟨hbad, _⟩ | ⟨_, hno, rfl⟩ | ⟨_, r1, r2, g, hok, rfl, hp⟩ := HRS.out
    · exfalso
      unfold badP at hbad
      omega
    · rw [show (300 : Int).toNat = 300 from rfl] at hno
      have HNO := Lib.hid hno
      clear hno HRS
      go_wp2_with fail
      refine (HW.out w3 HB3.out).mono ?_
      rintro e w4 ⟨v, rfl, ⟨a53, c53, rfl, ho53, hnc53, hcm53, _⟩, hb4⟩
      rw [← HN.out] at ho53 hnc53 ⊢
      have HB4 := Lib.hid (HB3.out.trans (hb4.mono HB3.out.size))
      have HRF := Lib.hid (pref_any 2 (by decide) a53 N c53 bs 300 300 rfl w4 (has_of_owns ho53) HN.out.symm hnc53 hcm53 hGl (by decide) (by decide))
      clear ho53 hb4
      go_wp2_with fail
      refine HRF.out.mono ?_
      rintro e w5 ⟨(⟨r1, r2, v, hok, _⟩ | ⟨_, i0, i1, i2, i3, a4, a5, a6, a7, a8, a9, n4, c4, n5, c5, n6, c6, n7, c7, n8, c8, n9, c9, rfl⟩), hb5⟩
      · exact absurd hok (HNO.out r1 r2)
      · have HB5 := Lib.hid (HB4.out.trans (hb5.mono HB4.out.size))
        clear hb5
        go_wp2_with fail
        go_ret
        exact ⟨rfl, HB5.out.trans ((balloc (brefl w5) _).mono HB5.out.size)⟩
    · rw [show (300 : Int).toNat = 300 from rfl] at hok
      have HOK := Lib.hid hok
      have HP := Lib.hid hp
      clear hok hp HRS
      go_wp2_with fail
      refine (HW.out w3 HB3.out).mono ?_
      rintro e w4 ⟨v, rfl, ⟨a53, c53, rfl, ho53, hnc53, hcm53, _⟩, hb4⟩
      rw [← HN.out] at ho53 hnc53 ⊢
      have HB4 := Lib.hid (HB3.out.trans (hb4.mono HB3.out.size))
      have HP4 := Lib.hid (HP.out.below hb4)
      have HC94 := Lib.hid ((hb4.block _ l93).trans HC93.out)
      have l94 := Nat.lt_of_lt_of_le l93 hb4.size
      obtain ⟨g53, he53, hg53⟩ : ∃ g53, a53 = some ⟨g53, 0, none⟩ ∧ w3.heap.size ≤ g53 := by
        rcases ho53.2 with ⟨_, h0⟩ | ⟨g, cap, cur, hv, hg, hh, _⟩
        · omega
        · injection hv with e1 e2 e3
          exact ⟨g, e1, hg⟩
      subst he53
      have HO53 := Lib.hid (has_of_owns ho53)
      have HRF := Lib.hid (pref_any 2 (by decide) (some ⟨g53, 0, none⟩) N c53 bs 300 300 rfl w4 (has_of_owns ho53) HN.out.symm hnc53 hcm53 hGl (by decide) (by decide))
      clear ho53 hb4
      go_wp2_with fail
      refine HRF.out.mono ?_
      rintro e w5 ⟨(⟨r3, r4, v, hok', rfl, hv⟩ | ⟨hno, _⟩), hb5⟩
      rotate_left
      · exact absurd HOK.out (hno r1 r2)
      obtain ⟨rfl, rfl⟩ := HOK.out.det hok'
      have HB5 := Lib.hid (HB4.out.trans (hb5.mono HB4.out.size))
      have HP5 := Lib.hid (HP4.out.below hb5)
      have HC95 := Lib.hid ((hb5.block _ l94).trans HC94.out)
      have l95 := Nat.lt_of_lt_of_le l94 hb5.size
      have HO5 := Lib.hid (HO53.out.below hb5)
      have HV5 := Lib.hid hv
      clear hb5 hok' hv HRF
      obtain ⟨i0, i1, i2, i3, a4, n4, c4, a5, n5, c5, a6, n6, c6, a7, n7, c7, a8, n8, c8, a9, n9, c9, rfl⟩ := HV5.out.shapeK
      obtain ⟨W, hW⟩ : ∃ W, W = w5.alloc (Obj.cells #[.int .i64 i0, .int .i64 i1, .int .i64 i2, .int .i64 i3, .slice a4 n4 c4, .slice a5 n5 c5, .slice a6 n6 c6, .slice a7 n7 c7, .slice a8 n8 c8, .slice a9 n9 c9] 104) := ⟨_, rfl⟩
      have hbW : Below w5.heap.size w5 W := by rw [hW]; exact balloc (brefl _) _
      have x12 : W.heap[w5.heap.size]? = some (.cells #[.int .i64 i0, .int .i64 i1, .int .i64 i2, .int .i64 i3, .slice a4 n4 c4, .slice a5 n5 c5, .slice a6 n6 c6, .slice a7 n7 c7, .slice a8 n8 c8, .slice a9 n9 c9] 104 (0, 0)) := by rw [hW]; exact (heap_push _ _ _).trans (if_pos rfl)
      have h53 : g53 ≠ g9 := by omega
      have HBW := Lib.hid (HB5.out.trans (hbW.mono HB5.out.size))
      have HSPO := Lib.hid (show Spo w2.heap.size g g9 N g53 c53 w5.heap.size bs 2 r1 r2 #[.int .i64 i0, .int .i64 i1, .int .i64 i2, .int .i64 i3, .slice a4 n4 c4, .slice a5 n5 c5, .slice a6 n6 c6, .slice a7 n7 c7, .slice a8 n8 c8, .slice a9 n9 c9] w W from ⟨⟨cur, (hbW.block _ l95).trans HC95.out, HU8.out⟩, HP5.out.below hbW, HV5.out.below hbW, HO5.out.below hbW, x12, HBW.out⟩)
      clear x12 hbW
      go_wp2_with fail
      rw [← hW]
      clear hW
      go_loopw [71] (fun i wr => ∃ j : Nat, j ≤ N ∧ i = .int .i64 (j : Nat) ∧ Spo w2.heap.size g g9 N g53 c53 w5.heap.size bs 2 r1 r2 #[.int .i64 i0, .int .i64 i1, .int .i64 i2, .int .i64 i3, .slice a4 n4 c4, .slice a5 n5 c5, .slice a6 n6 c6, .slice a7 n7 c7, .slice a8 n8 c8, .slice a9 n9 c9] w wr) (fun i _ => N - (Go.RowKit.intOf i).toNat)
      case atStart => exact ⟨0, Nat.zero_le _, rfl, HSPO.out⟩
      case round =>
        obtain ⟨j, hj, rfl, hs⟩ := hrel
        rename World => wr
        have HS := Lib.hid hs
        by_cases hlt : j < N
        · obtain ⟨cs, hcs, hall⟩ := hs.u8
          obtain ⟨z0, hz0⟩ := hall j hlt
          have c0 : wr.cell? ⟨g9, j, none⟩ = some (.int .u8 z0) := (cell_of_heap hcs j).trans hz0
          have f0 : wr.frozen? ⟨g9, j, none⟩ = false := froz_of_heap hcs j
          clear hs hcs hall hz0
          go_wp2_with fail
          go_roundw
          case rel => exact ⟨j + 1, hlt, by go_num, HS.out.set l9 h53 hw0 hlt _⟩
          case measure => simp [Go.RowKit.intOf]; omega
        · clear hs
          have HBR := Lib.hid HS.out.bl
          have X12 := Lib.hid HS.out.tb
          have l12 := (Array.getElem?_eq_some_iff.1 X12.out).1
          have HGA := Lib.hid (fun (x y : Int) hx hy (X : World) (hX : Below wr.heap.size wr X) => pget_any _ _ g bs _ 300 r1 r2 x y X (HS.out.pr.below hX) HOK.out (by decide) hx hy)
          have HGR := Lib.hid (fun (x y : Int) hx hy (X : World) (hX : Below wr.heap.size wr X) => prefget_any _ (some ⟨g53, 0, none⟩) N c53 bs 300 r1 r2 _ x y X (HS.out.by8.below hX) HN.out.symm hnc53 hcm53 hGl HOK.out (by decide) (HS.out.dt.below hX) hx hy)
          go_wp2_with fail
          go_loopw [79] (fun i ws => ∃ j : Nat, j ≤ 20 ∧ i = .int .i64 (j : Nat) ∧ Below wr.heap.size wr ws) (fun i _ => (20 - Go.RowKit.intOf i).toNat)
          case atStart => exact ⟨0, by decide, rfl, brefl _⟩
          case round =>
            obtain ⟨p, hp, rfl, hb⟩ := hrel
            rename World => ws
            have HB := Lib.hid hb
            clear hb
            by_cases hlp : p < 20
            · have dp : decide ((p : Int) < 20) = true := by simp; omega
              go_wp2_with fail
              go_loopw [82] (fun i wq => ∃ k : Nat, k ≤ 20 ∧ i = .int .i64 (k : Nat) ∧ Below wr.heap.size wr wq) (fun i _ => (20 - Go.RowKit.intOf i).toNat)
              case atStart => exact ⟨0, by decide, rfl, HB.out⟩
              case round =>
                obtain ⟨k, hk, rfl, hbq⟩ := hrel
                rename World => wq
                have HBQ := Lib.hid hbq
                have r9 := fun o => cell_of_heap ((hbq.block _ l12).trans X12.out) o
                have t9 := Nat.lt_of_lt_of_le l12 hbq.size
                by_cases hlk : k < 20
                · have dk : decide ((k : Int) < 20) = true := by simp; omega
                  have HGU := Lib.hid (fun (X : World) (hX : Below wq.heap.size wq X) => HGA.out (p : Int) (k : Int) (by omega) (by omega) X (HBQ.out.trans (hX.mono HBQ.out.size)))
                  have HGV := Lib.hid (fun (X : World) (hX : Below wq.heap.size wq X) => HGR.out (p : Int) (k : Int) (by omega) (by omega) X (HBQ.out.trans (hX.mono HBQ.out.size)))
                  generalize distF bs _ r1 r2 (p : Int) (k : Int) = z at HGU HGV
                  clear hbq
                  go_wp2_with fail
                  refine wp_region_tree (.step 0 (.step 1 (.step 2 (.step 4 (.step 5 (.step 6 (.step 3 (.step 7 (.step 8 .nil))))))))) (by kernel_rfl) (by kernel_rfl) (by kernel_rfl) (by kernel_rfl) (by intro _ _ d_ _ _ h_; cases d_ <;> first | exact h_ | (dsimp +zetaDelta only at h_ ⊢; exact h_)) (fun w' => ∃ p : Wld wq [], w' = p.val) (wld_start _ _) ?_
                  have hG_ := @wldC wq
                  (refine tree_quiet gtA (by rfl) (by rfl) (fun K_ hK_ => ?_); go_big_quiet_op; refine hK_ _ ?_; clear hK_ K_)
                  (refine tree_quiet gtA (by rfl) (by rfl) (fun K_ hK_ => ?_); go_big_quiet_op; refine hK_ _ ?_; clear hK_ K_)
                  (refine tree_quiet gtA (by rfl) (by rfl) (fun K_ hK_ => ?_); go_big_quiet_op; refine hK_ _ ?_; clear hK_ K_)
                  (refine tree_quiet gtA (by rfl) (by rfl) (fun K_ hK_ => ?_); go_big_quiet_op; refine hK_ _ ?_; clear hK_ K_)
                  (refine tree_quiet gtA (by rfl) (by rfl) (fun K_ hK_ => ?_); go_big_quiet_op; refine hK_ _ ?_; clear hK_ K_)
                  (refine tree_quiet gtA (by rfl) (by rfl) (fun K_ hK_ => ?_); go_big_quiet_op; refine hK_ _ ?_; clear hK_ K_)
                  (refine tree_run gtA (by rfl) (by rfl) (fun K_ hK_ => ?_); have HK_ := Lib.hid hK_; clear hK_; go_wp2_with (first | (go_at_call 55; (with_reducible refine (HGU.out _ (by exact blw)).mono ?_); rintro e w5 ⟨rfl, hb5⟩; have h5c := bc hb5; have h5f := bf hb5; have h5z := hb5.size; try simp only [World.size_alloc, World.size_drew] at h5z) | (go_at_call 56; (with_reducible refine (HGV.out _ (by exact blw)).mono ?_); rintro e w6 ⟨rfl, hb6⟩; have h6c := bc hb6; have h6f := bf hb6; have h6z := hb6.size; try simp only [World.size_alloc, World.size_drew] at h6z)); refine HK_.out _ _ (wld_ofA) ?_; clear HK_)
                  (refine tree_run gtA (by rfl) (by rfl) (fun K_ hK_ => ?_); have HK_ := Lib.hid hK_; clear hK_; go_wp2_with (first | (go_at_call 55; (with_reducible refine (HGU.out _ (by exact blw)).mono ?_); rintro e w5 ⟨rfl, hb5⟩; have h5c := bc hb5; have h5f := bf hb5; have h5z := hb5.size; try simp only [World.size_alloc, World.size_drew] at h5z) | (go_at_call 56; (with_reducible refine (HGV.out _ (by exact blw)).mono ?_); rintro e w6 ⟨rfl, hb6⟩; have h6c := bc hb6; have h6f := bf hb6; have h6z := hb6.size; try simp only [World.size_alloc, World.size_drew] at h6z)); refine HK_.out _ _ (wld_ofA) ?_; clear HK_)
                  (refine tree_quiet gtA (by rfl) (by rfl) (fun K_ hK_ => ?_); go_big_quiet_op; refine hK_ _ ?_; clear hK_ K_)
                  refine tree_nil ?_
                  clear hG_
                  have hb6u : Below wq.heap.size wq w6 := by exact blw
                  have HB6 := Lib.hid (HBQ.out.trans (hb6u.mono HBQ.out.size))
                  clear hb6u
                  go_wp2_with fail
                  go_roundw
                  case rel => exact ⟨k + 1, hlk, by go_num, HB6.out⟩
                  case measure => simp [Go.RowKit.intOf]; omega
                · have dk : decide ((k : Int) < 20) = false := by simp; omega
                  go_wp2_with fail
                  go_roundw
                  case rel => exact ⟨p + 1, hlp, by go_num, HBQ.out⟩
                  case measure => simp [Go.RowKit.intOf]; omega
            · have dp : decide ((p : Int) < 20) = false := by simp; omega
              go_wp2_with fail
              go_ret
              exact ⟨rfl, HBR.out.trans (HB.out.mono HBR.out.size)⟩
  · go_wp2_with fail
    refine (HW.out w1 HB1.out).mono ?_
    rintro e w2 ⟨v, rfl, ⟨a9, c9', rfl, ho9, hnc9, hcm9, hA9⟩, hb2⟩
    rw [← HN.out] at ho9 hnc9 ⊢
    have HB2 := Lib.hid (HB1.out.trans (hb2.mono HB1.out.size))
    have Z3 := Lib.hid ((hb2.block _ m3).trans Y3.out)
    have q3 := fun o => cell_of_heap Z3.out o
    have m3 := (Array.getElem?_eq_some_iff.1 Z3.out).1
    obtain ⟨g9, cur, he9, hg9, hcur, hpos⟩ : ∃ g9 cur, a9 = some ⟨g9, 0, none⟩ ∧ w1.heap.size ≤ g9 ∧ w2.heap[g9]? = some (.cells cur 5 (0, 0)) ∧ cur.toList.take N = bytesV bs := by
      rcases ho9.2 with ⟨_, h0⟩ | ⟨g, cap, cur, hv, hg, hh, _, _, _, ht⟩
      · omega
      · injection hv with e1 e2 e3
        exact ⟨g, cur, e1, hg, hh, by simpa using ht⟩
    subst he9
    have HU8 := Lib.hid (show ∀ i, i < N → ∃ z, cur[i]? = some (.int .u8 z) from fun i hi => by
      have e1 : (bytesV bs)[i]? = some (.int .u8 (((bs[i]'(by rw [← HN.out]; exact hi)).toNat : Nat) : Int)) := by
        simp [bytesV, List.getElem?_eq_getElem (show i < bs.length by rw [← HN.out]; exact hi)]
      rw [← hpos, List.getElem?_take, if_pos hi] at e1
      exact ⟨_, by rw [← Array.getElem?_toList]; exact e1⟩)
    have HC9 := Lib.hid hcur
    have l9 := (Array.getElem?_eq_some_iff.1 hcur).1
    have HO9 := Lib.hid (has_of_owns ho9)
    have HRD := Lib.hid (pread_any 6 (some ⟨g9, 0, none⟩) N c9' bs 300 w2 (has_of_owns ho9) HN.out.symm (by omega))
    have hw0 : w.heap.size ≤ g9 := Nat.le_trans HB1.out.size hg9
    clear ho9 hb2 hcur hpos hA9
    go_wp2_with fail
    refine HRD.out.mono ?_
    rintro e w3 ⟨hres, hb3⟩
    have HRS := Lib.hid hres
    have HB3 := Lib.hid (HB2.out.trans (hb3.mono HB2.out.size))
    have V3 := Lib.hid ((hb3.block _ m3).trans Z3.out)
    have q3 := fun o => cell_of_heap V3.out o
    have m3 := (Array.getElem?_eq_some_iff.1 V3.out).1
    have HC93 := Lib.hid ((hb3.block _ l9).trans HC9.out)
    have l93 := Nat.lt_of_lt_of_le l9 hb3.size
    clear hb3 hres HRD
    obtain ⟨hbad, _⟩ | ⟨_, hno, rfl⟩ | ⟨_, r1, r2, g, hok, rfl, hp⟩ := HRS.out
    · exfalso
      unfold badP at hbad
      omega
    · rw [show (300 : Int).toNat = 300 from rfl] at hno
      have HNO := Lib.hid hno
      clear hno HRS
      go_wp2_with fail
      refine (HW.out w3 HB3.out).mono ?_
      rintro e w4 ⟨v, rfl, ⟨a53, c53, rfl, ho53, hnc53, hcm53, _⟩, hb4⟩
      rw [← HN.out] at ho53 hnc53 ⊢
      have HB4 := Lib.hid (HB3.out.trans (hb4.mono HB3.out.size))
      have HRF := Lib.hid (pref_any 6 (by decide) a53 N c53 bs 300 300 rfl w4 (has_of_owns ho53) HN.out.symm hnc53 hcm53 hGl (by decide) (by decide))
      clear ho53 hb4
      go_wp2_with fail
      refine HRF.out.mono ?_
      rintro e w5 ⟨(⟨r1, r2, v, hok, _⟩ | ⟨_, i0, i1, i2, i3, a4, a5, a6, a7, a8, a9, n4, c4, n5, c5, n6, c6, n7, c7, n8, c8, n9, c9, rfl⟩), hb5⟩
      · exact absurd hok (HNO.out r1 r2)
      · have HB5 := Lib.hid (HB4.out.trans (hb5.mono HB4.out.size))
        clear hb5
        go_wp2_with fail
        go_ret
        exact ⟨rfl, HB5.out.trans ((balloc (brefl w5) _).mono HB5.out.size)⟩
    · rw [show (300 : Int).toNat = 300 from rfl] at hok
      have HOK := Lib.hid hok
      have HP := Lib.hid hp
      clear hok hp HRS
      go_wp2_with fail
      refine (HW.out w3 HB3.out).mono ?_
      rintro e w4 ⟨v, rfl, ⟨a53, c53, rfl, ho53, hnc53, hcm53, _⟩, hb4⟩
      rw [← HN.out] at ho53 hnc53 ⊢
      have HB4 := Lib.hid (HB3.out.trans (hb4.mono HB3.out.size))
      have HP4 := Lib.hid (HP.out.below hb4)
      have HC94 := Lib.hid ((hb4.block _ l93).trans HC93.out)
      have l94 := Nat.lt_of_lt_of_le l93 hb4.size
      obtain ⟨g53, he53, hg53⟩ : ∃ g53, a53 = some ⟨g53, 0, none⟩ ∧ w3.heap.size ≤ g53 := by
        rcases ho53.2 with ⟨_, h0⟩ | ⟨g, cap, cur, hv, hg, hh, _⟩
        · omega
        · injection hv with e1 e2 e3
          exact ⟨g, e1, hg⟩
      subst he53
      have HO53 := Lib.hid (has_of_owns ho53)
      have HRF := Lib.hid (pref_any 6 (by decide) (some ⟨g53, 0, none⟩) N c53 bs 300 300 rfl w4 (has_of_owns ho53) HN.out.symm hnc53 hcm53 hGl (by decide) (by decide))
      clear ho53 hb4
      go_wp2_with fail
      refine HRF.out.mono ?_
      rintro e w5 ⟨(⟨r3, r4, v, hok', rfl, hv⟩ | ⟨hno, _⟩), hb5⟩
      rotate_left
      · exact absurd HOK.out (hno r1 r2)
      obtain ⟨rfl, rfl⟩ := HOK.out.det hok'
      have HB5 := Lib.hid (HB4.out.trans (hb5.mono HB4.out.size))
      have HP5 := Lib.hid (HP4.out.below hb5)
      have HC95 := Lib.hid ((hb5.block _ l94).trans HC94.out)
      have l95 := Nat.lt_of_lt_of_le l94 hb5.size
      have HO5 := Lib.hid (HO53.out.below hb5)
      have HV5 := Lib.hid hv
      clear hb5 hok' hv HRF
      obtain ⟨i0, i1, i2, i3, a4, n4, c4, a5, n5, c5, a6, n6, c6, a7, n7, c7, a8, n8, c8, a9, n9, c9, rfl⟩ := HV5.out.shapeK
      obtain ⟨W, hW⟩ : ∃ W, W = w5.alloc (Obj.cells #[.int .i64 i0, .int .i64 i1, .int .i64 i2, .int .i64 i3, .slice a4 n4 c4, .slice a5 n5 c5, .slice a6 n6 c6, .slice a7 n7 c7, .slice a8 n8 c8, .slice a9 n9 c9] 104) := ⟨_, rfl⟩
      have hbW : Below w5.heap.size w5 W := by rw [hW]; exact balloc (brefl _) _
      have x12 : W.heap[w5.heap.size]? = some (.cells #[.int .i64 i0, .int .i64 i1, .int .i64 i2, .int .i64 i3, .slice a4 n4 c4, .slice a5 n5 c5, .slice a6 n6 c6, .slice a7 n7 c7, .slice a8 n8 c8, .slice a9 n9 c9] 104 (0, 0)) := by rw [hW]; exact (heap_push _ _ _).trans (if_pos rfl)
      have h53 : g53 ≠ g9 := by omega
      have HBW := Lib.hid (HB5.out.trans (hbW.mono HB5.out.size))
      have HSPO := Lib.hid (show Spo w2.heap.size g g9 N g53 c53 w5.heap.size bs 6 r1 r2 #[.int .i64 i0, .int .i64 i1, .int .i64 i2, .int .i64 i3, .slice a4 n4 c4, .slice a5 n5 c5, .slice a6 n6 c6, .slice a7 n7 c7, .slice a8 n8 c8, .slice a9 n9 c9] w W from ⟨⟨cur, (hbW.block _ l95).trans HC95.out, HU8.out⟩, HP5.out.below hbW, HV5.out.below hbW, HO5.out.below hbW, x12, HBW.out⟩)
      clear x12 hbW
      go_wp2_with fail
      rw [← hW]
      clear hW
      go_loopw [71] (fun i wr => ∃ j : Nat, j ≤ N ∧ i = .int .i64 (j : Nat) ∧ Spo w2.heap.size g g9 N g53 c53 w5.heap.size bs 6 r1 r2 #[.int .i64 i0, .int .i64 i1, .int .i64 i2, .int .i64 i3, .slice a4 n4 c4, .slice a5 n5 c5, .slice a6 n6 c6, .slice a7 n7 c7, .slice a8 n8 c8, .slice a9 n9 c9] w wr) (fun i _ => N - (Go.RowKit.intOf i).toNat)
      case atStart => exact ⟨0, Nat.zero_le _, rfl, HSPO.out⟩
      case round =>
        obtain ⟨j, hj, rfl, hs⟩ := hrel
        rename World => wr
        have HS := Lib.hid hs
        by_cases hlt : j < N
        · obtain ⟨cs, hcs, hall⟩ := hs.u8
          obtain ⟨z0, hz0⟩ := hall j hlt
          have c0 : wr.cell? ⟨g9, j, none⟩ = some (.int .u8 z0) := (cell_of_heap hcs j).trans hz0
          have f0 : wr.frozen? ⟨g9, j, none⟩ = false := froz_of_heap hcs j
          clear hs hcs hall hz0
          go_wp2_with fail
          go_roundw
          case rel => exact ⟨j + 1, hlt, by go_num, HS.out.set l9 h53 hw0 hlt _⟩
          case measure => simp [Go.RowKit.intOf]; omega
        · clear hs
          have HBR := Lib.hid HS.out.bl
          have X12 := Lib.hid HS.out.tb
          have l12 := (Array.getElem?_eq_some_iff.1 X12.out).1
          have HGA := Lib.hid (fun (x y : Int) hx hy (X : World) (hX : Below wr.heap.size wr X) => pget_any _ _ g bs _ 300 r1 r2 x y X (HS.out.pr.below hX) HOK.out (by decide) hx hy)
          have HGR := Lib.hid (fun (x y : Int) hx hy (X : World) (hX : Below wr.heap.size wr X) => prefget_any _ (some ⟨g53, 0, none⟩) N c53 bs 300 r1 r2 _ x y X (HS.out.by8.below hX) HN.out.symm hnc53 hcm53 hGl HOK.out (by decide) (HS.out.dt.below hX) hx hy)
          go_wp2_with fail
          go_loopw [79] (fun i ws => ∃ j : Nat, j ≤ 20 ∧ i = .int .i64 (j : Nat) ∧ Below wr.heap.size wr ws) (fun i _ => (20 - Go.RowKit.intOf i).toNat)
          case atStart => exact ⟨0, by decide, rfl, brefl _⟩
          case round =>
            obtain ⟨p, hp, rfl, hb⟩ := hrel
            rename World => ws
            have HB := Lib.hid hb
            clear hb
            by_cases hlp : p < 20
            · have dp : decide ((p : Int) < 20) = true := by simp; omega
              go_wp2_with fail
              go_loopw [82] (fun i wq => ∃ k : Nat, k ≤ 20 ∧ i = .int .i64 (k : Nat) ∧ Below wr.heap.size wr wq) (fun i _ => (20 - Go.RowKit.intOf i).toNat)
              case atStart => exact ⟨0, by decide, rfl, HB.out⟩
              case round =>
                obtain ⟨k, hk, rfl, hbq⟩ := hrel
                rename World => wq
                have HBQ := Lib.hid hbq
                have r9 := fun o => cell_of_heap ((hbq.block _ l12).trans X12.out) o
                have t9 := Nat.lt_of_lt_of_le l12 hbq.size
                by_cases hlk : k < 20
                · have dk : decide ((k : Int) < 20) = true := by simp; omega
                  have HGU := Lib.hid (fun (X : World) (hX : Below wq.heap.size wq X) => HGA.out (p : Int) (k : Int) (by omega) (by omega) X (HBQ.out.trans (hX.mono HBQ.out.size)))
                  have HGV := Lib.hid (fun (X : World) (hX : Below wq.heap.size wq X) => HGR.out (p : Int) (k : Int) (by omega) (by omega) X (HBQ.out.trans (hX.mono HBQ.out.size)))
                  generalize distF bs _ r1 r2 (p : Int) (k : Int) = z at HGU HGV
                  clear hbq
                  go_wp2_with fail
                  refine wp_region_tree (.step 0 (.step 1 (.step 2 (.step 4 (.step 5 (.step 6 (.step 3 (.step 7 (.step 8 .nil))))))))) (by kernel_rfl) (by kernel_rfl) (by kernel_rfl) (by kernel_rfl) (by intro _ _ d_ _ _ h_; cases d_ <;> first | exact h_ | (dsimp +zetaDelta only at h_ ⊢; exact h_)) (fun w' => ∃ p : Wld wq [], w' = p.val) (wld_start _ _) ?_
                  have hG_ := @wldC wq
                  (refine tree_quiet gtA (by rfl) (by rfl) (fun K_ hK_ => ?_); go_big_quiet_op; refine hK_ _ ?_; clear hK_ K_)
                  (refine tree_quiet gtA (by rfl) (by rfl) (fun K_ hK_ => ?_); go_big_quiet_op; refine hK_ _ ?_; clear hK_ K_)
                  (refine tree_quiet gtA (by rfl) (by rfl) (fun K_ hK_ => ?_); go_big_quiet_op; refine hK_ _ ?_; clear hK_ K_)
                  (refine tree_quiet gtA (by rfl) (by rfl) (fun K_ hK_ => ?_); go_big_quiet_op; refine hK_ _ ?_; clear hK_ K_)
                  (refine tree_quiet gtA (by rfl) (by rfl) (fun K_ hK_ => ?_); go_big_quiet_op; refine hK_ _ ?_; clear hK_ K_)
                  (refine tree_quiet gtA (by rfl) (by rfl) (fun K_ hK_ => ?_); go_big_quiet_op; refine hK_ _ ?_; clear hK_ K_)
                  (refine tree_run gtA (by rfl) (by rfl) (fun K_ hK_ => ?_); have HK_ := Lib.hid hK_; clear hK_; go_wp2_with (first | (go_at_call 55; (with_reducible refine (HGU.out _ (by exact blw)).mono ?_); rintro e w5 ⟨rfl, hb5⟩; have h5c := bc hb5; have h5f := bf hb5; have h5z := hb5.size; try simp only [World.size_alloc, World.size_drew] at h5z) | (go_at_call 56; (with_reducible refine (HGV.out _ (by exact blw)).mono ?_); rintro e w6 ⟨rfl, hb6⟩; have h6c := bc hb6; have h6f := bf hb6; have h6z := hb6.size; try simp only [World.size_alloc, World.size_drew] at h6z)); refine HK_.out _ _ (wld_ofA) ?_; clear HK_)
                  (refine tree_run gtA (by rfl) (by rfl) (fun K_ hK_ => ?_); have HK_ := Lib.hid hK_; clear hK_; go_wp2_with (first | (go_at_call 55; (with_reducible refine (HGU.out _ (by exact blw)).mono ?_); rintro e w5 ⟨rfl, hb5⟩; have h5c := bc hb5; have h5f := bf hb5; have h5z := hb5.size; try simp only [World.size_alloc, World.size_drew] at h5z) | (go_at_call 56; (with_reducible refine (HGV.out _ (by exact blw)).mono ?_); rintro e w6 ⟨rfl, hb6⟩; have h6c := bc hb6; have h6f := bf hb6; have h6z := hb6.size; try simp only [World.size_alloc, World.size_drew] at h6z)); refine HK_.out _ _ (wld_ofA) ?_; clear HK_)
                  (refine tree_quiet gtA (by rfl) (by rfl) (fun K_ hK_ => ?_); go_big_quiet_op; refine hK_ _ ?_; clear hK_ K_)
                  refine tree_nil ?_
                  clear hG_
                  have hb6u : Below wq.heap.size wq w6 := by exact blw
                  have HB6 := Lib.hid (HBQ.out.trans (hb6u.mono HBQ.out.size))
                  clear hb6u
                  go_wp2_with fail
                  go_roundw
                  case rel => exact ⟨k + 1, hlk, by go_num, HB6.out⟩
                  case measure => simp [Go.RowKit.intOf]; omega
                · have dk : decide ((k : Int) < 20) = false := by simp; omega
                  go_wp2_with fail
                  go_roundw
                  case rel => exact ⟨p + 1, hlp, by go_num, HBQ.out⟩
                  case measure => simp [Go.RowKit.intOf]; omega
            · have dp : decide ((p : Int) < 20) = false := by simp; omega
              go_wp2_with fail
              go_ret
              exact ⟨rfl, HBR.out.trans (HB.out.mono HBR.out.size)⟩
  · go_wp2_with fail
    refine (HW.out w1 HB1.out).mono ?_
    rintro e w2 ⟨v, rfl, ⟨a9, c9', rfl, ho9, hnc9, hcm9, hA9⟩, hb2⟩
    rw [← HN.out] at ho9 hnc9 ⊢
    have HB2 := Lib.hid (HB1.out.trans (hb2.mono HB1.out.size))
    have Z3 := Lib.hid ((hb2.block _ m3).trans Y3.out)
    have q3 := fun o => cell_of_heap Z3.out o
    have m3 := (Array.getElem?_eq_some_iff.1 Z3.out).1
    obtain ⟨g9, cur, he9, hg9, hcur, hpos⟩ : ∃ g9 cur, a9 = some ⟨g9, 0, none⟩ ∧ w1.heap.size ≤ g9 ∧ w2.heap[g9]? = some (.cells cur 5 (0, 0)) ∧ cur.toList.take N = bytesV bs := by
      rcases ho9.2 with ⟨_, h0⟩ | ⟨g, cap, cur, hv, hg, hh, _, _, _, ht⟩
      · omega
      · injection hv with e1 e2 e3
        exact ⟨g, cur, e1, hg, hh, by simpa using ht⟩
    subst he9
    have HU8 := Lib.hid (show ∀ i, i < N → ∃ z, cur[i]? = some (.int .u8 z) from fun i hi => by
      have e1 : (bytesV bs)[i]? = some (.int .u8 (((bs[i]'(by rw [← HN.out]; exact hi)).toNat : Nat) : Int)) := by
        simp [bytesV, List.getElem?_eq_getElem (show i < bs.length by rw [← HN.out]; exact hi)]
      rw [← hpos, List.getElem?_take, if_pos hi] at e1
      exact ⟨_, by rw [← Array.getElem?_toList]; exact e1⟩)
    have HC9 := Lib.hid hcur
    have l9 := (Array.getElem?_eq_some_iff.1 hcur).1
    have HO9 := Lib.hid (has_of_owns ho9)
    have HRD := Lib.hid (pread_any 6 (some ⟨g9, 0, none⟩) N c9' bs 300 w2 (has_of_owns ho9) HN.out.symm (by omega))
    have hw0 : w.heap.size ≤ g9 := Nat.le_trans HB1.out.size hg9
    clear ho9 hb2 hcur hpos hA9
    go_wp2_with fail
    refine HRD.out.mono ?_
    rintro e w3 ⟨hres, hb3⟩
    have HRS := Lib.hid hres
    have HB3 := Lib.hid (HB2.out.trans (hb3.mono HB2.out.size))
    have V3 := Lib.hid ((hb3.block _ m3).trans Z3.out)
    have q3 := fun o => cell_of_heap V3.out o
    have m3 := (Array.getElem?_eq_some_iff.1 V3.out).1
    have HC93 := Lib.hid ((hb3.block _ l9).trans HC9.out)
    have l93 := Nat.lt_of_lt_of_le l9 hb3.size
    clear hb3 hres HRD
    obtain ⟨hbad, _⟩ | ⟨_, hno, rfl⟩ | ⟨_, r1, r2, g, hok, rfl, hp⟩ := HRS.out
    · exfalso
      unfold badP at hbad
      omega
    · rw [show (300 : Int).toNat = 300 from rfl] at hno
      have HNO := Lib.hid hno
      clear hno HRS
      go_wp2_with fail
      refine (HW.out w3 HB3.out).mono ?_
      rintro e w4 ⟨v, rfl, ⟨a53, c53, rfl, ho53, hnc53, hcm53, _⟩, hb4⟩
      rw [← HN.out] at ho53 hnc53 ⊢
      have HB4 := Lib.hid (HB3.out.trans (hb4.mono HB3.out.size))
      have HRF := Lib.hid (pref_any 6 (by decide) a53 N c53 bs 300 300 rfl w4 (has_of_owns ho53) HN.out.symm hnc53 hcm53 hGl (by decide) (by decide))
      clear ho53 hb4
      go_wp2_with fail
      refine HRF.out.mono ?_
      rintro e w5 ⟨(⟨r1, r2, v, hok, _⟩ | ⟨_, i0, i1, i2, i3, a4, a5, a6, a7, a8, a9, n4, c4, n5, c5, n6, c6, n7, c7, n8, c8, n9, c9, rfl⟩), hb5⟩
      · exact absurd hok (HNO.out r1 r2)
      · have HB5 := Lib.hid (HB4.out.trans (hb5.mono HB4.out.size))
        clear hb5
        go_wp2_with fail
        go_ret
        exact ⟨rfl, HB5.out.trans ((balloc (brefl w5) _).mono HB5.out.size)⟩
    · rw [show (300 : Int).toNat = 300 from rfl] at hok
      have HOK := Lib.hid hok
      have HP := Lib.hid hp
      clear hok hp HRS
      go_wp2_with fail
      refine (HW.out w3 HB3.out).mono ?_
      rintro e w4 ⟨v, rfl, ⟨a53, c53, rfl, ho53, hnc53, hcm53, _⟩, hb4⟩
      rw [← HN.out] at ho53 hnc53 ⊢
      have HB4 := Lib.hid (HB3.out.trans (hb4.mono HB3.out.size))
      have HP4 := Lib.hid (HP.out.below hb4)
      have HC94 := Lib.hid ((hb4.block _ l93).trans HC93.out)
      have l94 := Nat.lt_of_lt_of_le l93 hb4.size
      obtain ⟨g53, he53, hg53⟩ : ∃ g53, a53 = some ⟨g53, 0, none⟩ ∧ w3.heap.size ≤ g53 := by
        rcases ho53.2 with ⟨_, h0⟩ | ⟨g, cap, cur, hv, hg, hh, _⟩
        · omega
        · injection hv with e1 e2 e3
          exact ⟨g, e1, hg⟩
      subst he53
      have HO53 := Lib.hid (has_of_owns ho53)
      have HRF := Lib.hid (pref_any 6 (by decide) (some ⟨g53, 0, none⟩) N c53 bs 300 300 rfl w4 (has_of_owns ho53) HN.out.symm hnc53 hcm53 hGl (by decide) (by decide))
      clear ho53 hb4
      go_wp2_with fail
      refine HRF.out.mono ?_
      rintro e w5 ⟨(⟨r3, r4, v, hok', rfl, hv⟩ | ⟨hno, _⟩), hb5⟩
      rotate_left
      · exact absurd HOK.out (hno r1 r2)
      obtain ⟨rfl, rfl⟩ := HOK.out.det hok'
      have HB5 := Lib.hid (HB4.out.trans (hb5.mono HB4.out.size))
      have HP5 := Lib.hid (HP4.out.below hb5)
      have HC95 := Lib.hid ((hb5.block _ l94).trans HC94.out)
      have l95 := Nat.lt_of_lt_of_le l94 hb5.size
      have HO5 := Lib.hid (HO53.out.below hb5)
      have HV5 := Lib.hid hv
      clear hb5 hok' hv HRF
      obtain ⟨i0, i1, i2, i3, a4, n4, c4, a5, n5, c5, a6, n6, c6, a7, n7, c7, a8, n8, c8, a9, n9, c9, rfl⟩ := HV5.out.shapeK
      obtain ⟨W, hW⟩ : ∃ W, W = w5.alloc (Obj.cells #[.int .i64 i0, .int .i64 i1, .int .i64 i2, .int .i64 i3, .slice a4 n4 c4, .slice a5 n5 c5, .slice a6 n6 c6, .slice a7 n7 c7, .slice a8 n8 c8, .slice a9 n9 c9] 104) := ⟨_, rfl⟩
      have hbW : Below w5.heap.size w5 W := by rw [hW]; exact balloc (brefl _) _
      have x12 : W.heap[w5.heap.size]? = some (.cells #[.int .i64 i0, .int .i64 i1, .int .i64 i2, .int .i64 i3, .slice a4 n4 c4, .slice a5 n5 c5, .slice a6 n6 c6, .slice a7 n7 c7, .slice a8 n8 c8, .slice a9 n9 c9] 104 (0, 0)) := by rw [hW]; exact (heap_push _ _ _).trans (if_pos rfl)
      have h53 : g53 ≠ g9 := by omega
      have HBW := Lib.hid (HB5.out.trans (hbW.mono HB5.out.size))
      have HSPO := Lib.hid (show Spo w2.heap.size g g9 N g53 c53 w5.heap.size bs 6 r1 r2 #[.int .i64 i0, .int .i64 i1, .int .i64 i2, .int .i64 i3, .slice a4 n4 c4, .slice a5 n5 c5, .slice a6 n6 c6, .slice a7 n7 c7, .slice a8 n8 c8, .slice a9 n9 c9] w W from ⟨⟨cur, (hbW.block _ l95).trans HC95.out, HU8.out⟩, HP5.out.below hbW, HV5.out.below hbW, HO5.out.below hbW, x12, HBW.out⟩)
      clear x12 hbW
      go_wp2_with fail
      rw [← hW]
      clear hW
      go_loopw [71] (fun i wr => ∃ j : Nat, j ≤ N ∧ i = .int .i64 (j : Nat) ∧ Spo w2.heap.size g g9 N g53 c53 w5.heap.size bs 6 r1 r2 #[.int .i64 i0, .int .i64 i1, .int .i64 i2, .int .i64 i3, .slice a4 n4 c4, .slice a5 n5 c5, .slice a6 n6 c6, .slice a7 n7 c7, .slice a8 n8 c8, .slice a9 n9 c9] w wr) (fun i _ => N - (Go.RowKit.intOf i).toNat)
      case atStart => exact ⟨0, Nat.zero_le _, rfl, HSPO.out⟩
      case round =>
        obtain ⟨j, hj, rfl, hs⟩ := hrel
        rename World => wr
        have HS := Lib.hid hs
        by_cases hlt : j < N
        · obtain ⟨cs, hcs, hall⟩ := hs.u8
          obtain ⟨z0, hz0⟩ := hall j hlt
          have c0 : wr.cell? ⟨g9, j, none⟩ = some (.int .u8 z0) := (cell_of_heap hcs j).trans hz0
          have f0 : wr.frozen? ⟨g9, j, none⟩ = false := froz_of_heap hcs j
          clear hs hcs hall hz0
          go_wp2_with fail
          go_roundw
          case rel => exact ⟨j + 1, hlt, by go_num, HS.out.set l9 h53 hw0 hlt _⟩
          case measure => simp [Go.RowKit.intOf]; omega
        · clear hs
          have HBR := Lib.hid HS.out.bl
          have X12 := Lib.hid HS.out.tb
          have l12 := (Array.getElem?_eq_some_iff.1 X12.out).1
          have HGA := Lib.hid (fun (x y : Int) hx hy (X : World) (hX : Below wr.heap.size wr X) => pget_any _ _ g bs _ 300 r1 r2 x y X (HS.out.pr.below hX) HOK.out (by decide) hx hy)
          have HGR := Lib.hid (fun (x y : Int) hx hy (X : World) (hX : Below wr.heap.size wr X) => prefget_any _ (some ⟨g53, 0, none⟩) N c53 bs 300 r1 r2 _ x y X (HS.out.by8.below hX) HN.out.symm hnc53 hcm53 hGl HOK.out (by decide) (HS.out.dt.below hX) hx hy)
          go_wp2_with fail
          go_loopw [79] (fun i ws => ∃ j : Nat, j ≤ 20 ∧ i = .int .i64 (j : Nat) ∧ Below wr.heap.size wr ws) (fun i _ => (20 - Go.RowKit.intOf i).toNat)
          case atStart => exact ⟨0, by decide, rfl, brefl _⟩
          case round =>
            obtain ⟨p, hp, rfl, hb⟩ := hrel
            rename World => ws
            have HB := Lib.hid hb
            clear hb
            by_cases hlp : p < 20
            · have dp : decide ((p : Int) < 20) = true := by simp; omega
              go_wp2_with fail
              go_loopw [82] (fun i wq => ∃ k : Nat, k ≤ 20 ∧ i = .int .i64 (k : Nat) ∧ Below wr.heap.size wr wq) (fun i _ => (20 - Go.RowKit.intOf i).toNat)
              case atStart => exact ⟨0, by decide, rfl, HB.out⟩
              case round =>
                obtain ⟨k, hk, rfl, hbq⟩ := hrel
                rename World => wq
                have HBQ := Lib.hid hbq
                have r9 := fun o => cell_of_heap ((hbq.block _ l12).trans X12.out) o
                have t9 := Nat.lt_of_lt_of_le l12 hbq.size
                by_cases hlk : k < 20
                · have dk : decide ((k : Int) < 20) = true := by simp; omega
                  have HGU := Lib.hid (fun (X : World) (hX : Below wq.heap.size wq X) => HGA.out (p : Int) (k : Int) (by omega) (by omega) X (HBQ.out.trans (hX.mono HBQ.out.size)))
                  have HGV := Lib.hid (fun (X : World) (hX : Below wq.heap.size wq X) => HGR.out (p : Int) (k : Int) (by omega) (by omega) X (HBQ.out.trans (hX.mono HBQ.out.size)))
                  generalize distF bs _ r1 r2 (p : Int) (k : Int) = z at HGU HGV
                  clear hbq
                  go_wp2_with fail
                  refine wp_region_tree (.step 0 (.step 1 (.step 2 (.step 4 (.step 5 (.step 6 (.step 3 (.step 7 (.step 8 .nil))))))))) (by kernel_rfl) (by kernel_rfl) (by kernel_rfl) (by kernel_rfl) (by intro _ _ d_ _ _ h_; cases d_ <;> first | exact h_ | (dsimp +zetaDelta only at h_ ⊢; exact h_)) (fun w' => ∃ p : Wld wq [], w' = p.val) (wld_start _ _) ?_
                  have hG_ := @wldC wq
                  (refine tree_quiet gtA (by rfl) (by rfl) (fun K_ hK_ => ?_); go_big_quiet_op; refine hK_ _ ?_; clear hK_ K_)
                  (refine tree_quiet gtA (by rfl) (by rfl) (fun K_ hK_ => ?_); go_big_quiet_op; refine hK_ _ ?_; clear hK_ K_)
                  (refine tree_quiet gtA (by rfl) (by rfl) (fun K_ hK_ => ?_); go_big_quiet_op; refine hK_ _ ?_; clear hK_ K_)
                  (refine tree_quiet gtA (by rfl) (by rfl) (fun K_ hK_ => ?_); go_big_quiet_op; refine hK_ _ ?_; clear hK_ K_)
                  (refine tree_quiet gtA (by rfl) (by rfl) (fun K_ hK_ => ?_); go_big_quiet_op; refine hK_ _ ?_; clear hK_ K_)
                  (refine tree_quiet gtA (by rfl) (by rfl) (fun K_ hK_ => ?_); go_big_quiet_op; refine hK_ _ ?_; clear hK_ K_)
                  (refine tree_run gtA (by rfl) (by rfl) (fun K_ hK_ => ?_); have HK_ := Lib.hid hK_; clear hK_; go_wp2_with (first | (go_at_call 55; (with_reducible refine (HGU.out _ (by exact blw)).mono ?_); rintro e w5 ⟨rfl, hb5⟩; have h5c := bc hb5; have h5f := bf hb5; have h5z := hb5.size; try simp only [World.size_alloc, World.size_drew] at h5z) | (go_at_call 56; (with_reducible refine (HGV.out _ (by exact blw)).mono ?_); rintro e w6 ⟨rfl, hb6⟩; have h6c := bc hb6; have h6f := bf hb6; have h6z := hb6.size; try simp only [World.size_alloc, World.size_drew] at h6z)); refine HK_.out _ _ (wld_ofA) ?_; clear HK_)
                  (refine tree_run gtA (by rfl) (by rfl) (fun K_ hK_ => ?_); have HK_ := Lib.hid hK_; clear hK_; go_wp2_with (first | (go_at_call 55; (with_reducible refine (HGU.out _ (by exact blw)).mono ?_); rintro e w5 ⟨rfl, hb5⟩; have h5c := bc hb5; have h5f := bf hb5; have h5z := hb5.size; try simp only [World.size_alloc, World.size_drew] at h5z) | (go_at_call 56; (with_reducible refine (HGV.out _ (by exact blw)).mono ?_); rintro e w6 ⟨rfl, hb6⟩; have h6c := bc hb6; have h6f := bf hb6; have h6z := hb6.size; try simp only [World.size_alloc, World.size_drew] at h6z)); refine HK_.out _ _ (wld_ofA) ?_; clear HK_)
                  (refine tree_quiet gtA (by rfl) (by rfl) (fun K_ hK_ => ?_); go_big_quiet_op; refine hK_ _ ?_; clear hK_ K_)
                  refine tree_nil ?_
                  clear hG_
                  have hb6u : Below wq.heap.size wq w6 := by exact blw
                  have HB6 := Lib.hid (HBQ.out.trans (hb6u.mono HBQ.out.size))
                  clear hb6u
                  go_wp2_with fail
                  go_roundw
                  case rel => exact ⟨k + 1, hlk, by go_num, HB6.out⟩
                  case measure => simp [Go.RowKit.intOf]; omega
                · have dk : decide ((k : Int) < 20) = false := by simp; omega
                  go_wp2_with fail
                  go_roundw
                  case rel => exact ⟨p + 1, hlp, by go_num, HBQ.out⟩
                  case measure => simp [Go.RowKit.intOf]; omega
            · have dp : decide ((p : Int) < 20) = false := by simp; omega
              go_wp2_with fail
              go_ret
              exact ⟨rfl, HBR.out.trans (HB.out.mono HBR.out.size)⟩

open Go.ChangeShapes Go.WideShapes Go.ChangeAt Go.RowKit
open Go.ChangeMaps (open_string shut_string)

set_option maxRecDepth 100000 in
theorem pairKeeps_walks (H : Type) (enc : TypeId × Value → H) : Walks H enc 13 [119, 5, 5] := by
  intro W base args ds p hval hA _
  obtain ⟨v0, vs0, d0, ds0, p0, q0, hargs, rfl, rfl, h0, r0⟩ := trodAll_cons hA
  obtain ⟨v1, vs1, d1, ds1, p1, q1, rfl, rfl, rfl, h1, r1⟩ := trodAll_cons r0
  obtain ⟨v2, vs2, d2, ds2, p2, q2, rfl, rfl, rfl, h2, r2⟩ := trodAll_cons r1
  obtain ⟨rfl, rfl, rfl⟩ := trodAll_nil r2
  obtain rfl : args = #[v0, v1, v2] := by cases args; simp_all
  obtain ⟨al, cl, lb, ar, cr, rb, ad, cd, ds, rfl, hl, hr, hd, hb⟩ := open_grid (hval 0 119 v0 rfl rfl) h0
  obtain ⟨z1, rfl, t1⟩ := open_int Try.underlying5 (hval 1 5 v1 rfl rfl) h1
  obtain ⟨z2, rfl, t2⟩ := open_int Try.underlying5 (hval 2 5 v2 rfl rfl) h2
  obtain ⟨k1, rfl, b1⟩ := wf_u8 t1
  obtain ⟨k2, rfl, b2⟩ := wf_u8 t2
  exact pairKeeps_walk al _ cl lb ar _ cr rb ad _ cd ds k1 k2 W hl rfl hr rfl hd rfl hb b1 b2

set_option maxRecDepth 100000 in
theorem pairKeeps_lifted (os : Os) (started : os.Started) (H : Type) (enc : TypeId × Value → H) :
    ReturnsInHanded {} Try.checked os 13 .any (Rows.pairKeepsSpec.pre6 enc Try.prog Try.f13 Rows.pairKeepsRow.domain false) (Rows.pairKeepsSpec.post enc Try.prog Try.f13 false true false false) :=
  lift_law (s := Rows.pairKeepsSpec) (fn := Try.f13) started (by kernel_rfl) Try.func13
    (ChangeSpec.witness6 (enc := enc) (C := Try.checked) false ⟨#[], #[.agg #[.slice none 0 0, .slice none 0 0, .slice none 0 0], .int .u8 0, .int .u8 0], []⟩ 8 (by kernel_rfl) (by kernel_rfl) (by kernel_rfl) (by kernel_rfl))
    rfl rfl (fun ds h => by match ds, h with | [d0, d1, d2], _ => rfl) (by intro t ht; simp [Try.params13] at ht; first | (subst ht; exact ⟨by kernel_rfl, of_decide_eq_true (by kernel_rfl)⟩) | (obtain rfl | rfl := ht <;> exact ⟨by kernel_rfl, of_decide_eq_true (by kernel_rfl)⟩) | (obtain rfl | rfl | rfl := ht <;> exact ⟨by kernel_rfl, of_decide_eq_true (by kernel_rfl)⟩) | (obtain rfl | rfl | rfl | rfl := ht <;> exact ⟨by kernel_rfl, of_decide_eq_true (by kernel_rfl)⟩))
    (by rw [Try.params13]; exact pairKeeps_walks H enc)
theorem pairKeeps_over : Rows.pairKeepsRow.holds Try.pinned (OpenSpec.ofChange Rows.pairKeepsSpec) :=
  OpenClaim.holds_of_wide 13 Try.f13 rfl rfl rfl rfl rfl rfl rfl ⟨rfl, rfl, rfl, rfl, rfl⟩ rfl rfl rfl rfl rfl (by kernel_rfl) Try.func13 (by kernel_rfl)
    (of_decide_eq_true (by kernel_rfl)) (by unfold Func.isWrapper; first | (rw [if_pos (by decide +kernel)]; kernel_rfl) | (rw [if_neg (by decide +kernel)]; exact ⟨rfl, rfl⟩))
    (fun os started H enc _ => pairKeeps_lifted os started H enc)
theorem pairKeeps_proved : Rows.PairKeepsSaid := pairKeeps_over
#print axioms pairKeeps_proved
end Go.Proofs.Ytbicnkopmamnpaa
