
/- PairReads returns true for every bytes, every kind and number of glyphs, and every two glyphs, and changes nothing: any bytes begin with such a subtable of any kind, or not, and the distance of any two glyphs is the document's. No condition beside the row's own. -/
import Derived.Test.YtbicnkopmamnpaaJ16
import Derived.Test.YtbicnkopmamnpaaJ20
import Derived.Test.YtbicnkopmamnpaaJ01
namespace Go.Proofs.Ytbicnkopmamnpaa
open Go.RowKit Go.Lib

theorem DT.shape {bs : List UInt8} {kind : Int} {r1 r2 : List RP} {a : Option Addr} {n c : Nat} {v : Array Value} {w : World} (h : DT bs kind r1 r2 a n c v w) :
    ∃ i0 i1 i2 i3 a4 n4 c4 a5 n5 c5 a6 n6 c6 a7 n7 c7 a8 n8 c8 a9 n9 c9, v = #[.int .i64 i0, .int .i64 i1, .int .i64 i2, .int .i64 i3, .slice a4 n4 c4, .slice a5 n5 c5, .slice a6 n6 c6, .slice a7 n7 c7, .slice a8 n8 c8, .slice a9 n9 c9] := by
  rcases h with ⟨_, rfl⟩ | ⟨_, _, _, _, _, _, _, _, rfl, _⟩
  · exact ⟨_, _, _, _, _, _, _, _, _, _, _, _, _, _, _, _, _, _, _, _, _, _, rfl⟩
  · exact ⟨_, _, _, _, _, _, _, _, _, _, _, _, _, _, _, _, _, _, _, _, _, _, rfl⟩
set_option maxRecDepth 100000 in
set_option maxHeartbeats 12800000 in
theorem pairReads_walk (a : Option Addr) (n c : Nat) (bs : List UInt8) (kind zg l r : Int) (w : World) (h : Has w a (bytesV bs)) (hl : bs.length = n) (hn : n ≤ c) (hc : c ≤ maxLen) (hlb : -9223372036854775808 ≤ l ∧ l ≤ 9223372036854775807) (hrb : -9223372036854775808 ≤ r ∧ r ≤ 9223372036854775807) :
    Calls Try.prog 10 #[.slice a n c, .agg #[.int .i64 kind, .int .i64 zg], .agg #[.int .i64 l, .int .i64 r]] w fun e w' => e = .returned (.bool true) ∧ Below w.heap.size w w' := by
  have hAC := allocC
  have hAF := allocF
  have h1 := eqPtn
  have h2 := eqPte
  have h3 := eqPnn
  have h4 := eqPne
  have HSP := Lib.hid (fun W => speaks22_any W)
  have HH := Lib.hid h
  have HL := Lib.hid hl
  clear h hl
  obtain ⟨A, hA⟩ : ∃ A, A = (w.alloc (Obj.cells #[.int .i64 kind, .int .i64 zg] 99)).alloc (Obj.cells #[.int .i64 l, .int .i64 r] 99) := ⟨_, rfl⟩
  have hbA : Below w.heap.size w A := by rw [hA]; exact balloc (balloc (brefl w) _) _
  have x4 : A.heap[w.heap.size]? = some (.cells #[.int .i64 kind, .int .i64 zg] 99 (0, 0)) := by rw [hA, heap_push, if_neg (by simp), heap_push, if_pos rfl]
  have x5 : A.heap[w.heap.size + 1]? = some (.cells #[.int .i64 l, .int .i64 r] 99 (0, 0)) := by rw [hA, heap_push, if_pos (by simp)]
  have X4 := Lib.hid x4
  have X5 := Lib.hid x5
  have HBA := Lib.hid hbA
  have l4 := (Array.getElem?_eq_some_iff.1 x4).1
  have l5 := (Array.getElem?_eq_some_iff.1 x5).1
  clear x4 x5 hbA
  go_enter Try.func10, Try.ntmps10
  go_wp2_with fail
  rw [← hA]
  clear hA
  refine (HSP.out A).mono ?_
  rintro e w1 ⟨rfl, hb1⟩
  have HB1 := Lib.hid (HBA.out.trans (hb1.mono HBA.out.size))
  have Y4 := Lib.hid ((hb1.block _ l4).trans X4.out)
  have Y5 := Lib.hid ((hb1.block _ l5).trans X5.out)
  have q4 := fun o => cell_of_heap Y4.out o
  have m4 := (Array.getElem?_eq_some_iff.1 Y4.out).1
  have m5 := (Array.getElem?_eq_some_iff.1 Y5.out).1
  clear hb1
  by_cases hbig : 600 < n
  · have d1 : decide (600 < (n : Int)) = true := by simp; omega
    go_wp2_with fail
    go_ret
    exact ⟨rfl, HB1.out⟩
  have d1 : decide (600 < (n : Int)) = false := by simp; omega
  have HRD := Lib.hid (pread_any kind a n c bs zg w1 (HH.out.below HB1.out) HL.out (by omega))
  go_wp2_with fail
  refine HRD.out.mono ?_
  rintro e w2 ⟨hres, hb2⟩
  have HB2 := Lib.hid (HB1.out.trans (hb2.mono HB1.out.size))
  have Z4 := Lib.hid ((hb2.block _ m4).trans Y4.out)
  have Z5 := Lib.hid ((hb2.block _ m5).trans Y5.out)
  have q4 := fun o => cell_of_heap Z4.out o
  have m4 := (Array.getElem?_eq_some_iff.1 Z4.out).1
  have m5 := (Array.getElem?_eq_some_iff.1 Z5.out).1
  have HRS := Lib.hid hres
  clear hb2 HRD hres
  by_cases hb1 : zg < 1
  · have e1 : decide (zg < 1) = true := by simpa using hb1
    obtain ⟨hbad, rfl⟩ | ⟨hnb, _⟩ | ⟨hnb, _⟩ := HRS.out
    · go_wp2_with fail
      go_ret
      exact ⟨rfl, HB2.out⟩
    · exact absurd (.inl hb1) hnb
    · exact absurd (.inl hb1) hnb
  have e1 : decide (zg < 1) = false := by simpa using hb1
  by_cases hb2 : 65535 < zg
  · have e2 : decide (65535 < zg) = true := by simpa using hb2
    obtain ⟨hbad, rfl⟩ | ⟨hnb, _⟩ | ⟨hnb, _⟩ := HRS.out
    · go_wp2_with fail
      go_ret
      exact ⟨rfl, HB2.out⟩
    · exact absurd (.inr (.inl hb2)) hnb
    · exact absurd (.inr (.inl hb2)) hnb
  have e2 : decide (65535 < zg) = false := by simpa using hb2
  by_cases hk : kind ≠ 0 ∧ kind ≠ 2 ∧ kind ≠ 6
  · have t0 : (kind != 0) = true := by simp [hk.1]
    have t2 : (kind != 2) = true := by simp [hk.2.1]
    have t6 : (kind != 6) = true := by simp [hk.2.2]
    obtain ⟨hbad, rfl⟩ | ⟨hnb, _⟩ | ⟨hnb, _⟩ := HRS.out
    · go_wp2_with fail
      go_ret
      exact ⟨rfl, HB2.out⟩
    · exact absurd (.inr (.inr hk)) hnb
    · exact absurd (.inr (.inr hk)) hnb
  have hkk : kind = 0 ∨ kind = 2 ∨ kind = 6 := by omega
  obtain ⟨G, rfl⟩ : ∃ G : Nat, zg = (G : Nat) := ⟨zg.toNat, by omega⟩
  have HNB := Lib.hid (show ¬ badP kind (G : Nat) from by unfold badP; omega)
  have HRF := Lib.hid (pref_any kind hkk a n c bs G (G : Nat) rfl w2 (HH.out.below HB2.out) HL.out hn hc (by omega) (by omega) (by omega))
  have HKK := Lib.hid hkk
  clear hk
  have key : ∀ k, k = kind → (k = 0 ∨ k = 2 ∨ k = 6) → (decide (k ≠ 0 ∧ k ≠ 2 ∧ k ≠ 6) = false) := fun k _ h => by simp; omega
  clear key
  obtain ⟨hbad, _⟩ | ⟨_, hno, rfl⟩ | ⟨_, r1, r2, g, hok, rfl, hp⟩ := HRS.out
  · exact absurd hbad HNB.out
  · rw [Int.toNat_natCast] at hno
    have HNO := Lib.hid hno
    clear hno HRS
    rcases hkk with rfl | rfl | rfl
    · go_wp2_with fail
      refine HRF.out.mono ?_
      rintro e w3 ⟨(⟨r1, r2, v, hok, _⟩ | ⟨_, i0, i1, i2, i3, a4, a5, a6, a7, a8, a9, n4, c4, n5, c5, n6, c6, n7, c7, n8, c8, n9, c9, rfl⟩), hb3⟩
      · exact absurd hok (HNO.out r1 r2)
      · have HB3 := Lib.hid (HB2.out.trans (hb3.mono HB2.out.size))
        clear hb3
        go_wp2_with fail
        go_ret
        exact ⟨rfl, HB3.out.trans ((balloc (brefl w3) _).mono HB3.out.size)⟩
    · go_wp2_with fail
      refine HRF.out.mono ?_
      rintro e w3 ⟨(⟨r1, r2, v, hok, _⟩ | ⟨_, i0, i1, i2, i3, a4, a5, a6, a7, a8, a9, n4, c4, n5, c5, n6, c6, n7, c7, n8, c8, n9, c9, rfl⟩), hb3⟩
      · exact absurd hok (HNO.out r1 r2)
      · have HB3 := Lib.hid (HB2.out.trans (hb3.mono HB2.out.size))
        clear hb3
        go_wp2_with fail
        go_ret
        exact ⟨rfl, HB3.out.trans ((balloc (brefl w3) _).mono HB3.out.size)⟩
    · go_wp2_with fail
      refine HRF.out.mono ?_
      rintro e w3 ⟨(⟨r1, r2, v, hok, _⟩ | ⟨_, i0, i1, i2, i3, a4, a5, a6, a7, a8, a9, n4, c4, n5, c5, n6, c6, n7, c7, n8, c8, n9, c9, rfl⟩), hb3⟩
      · exact absurd hok (HNO.out r1 r2)
      · have HB3 := Lib.hid (HB2.out.trans (hb3.mono HB2.out.size))
        clear hb3
        go_wp2_with fail
        go_ret
        exact ⟨rfl, HB3.out.trans ((balloc (brefl w3) _).mono HB3.out.size)⟩
  · rw [Int.toNat_natCast] at hok
    have HOK := Lib.hid hok
    have HP := Lib.hid hp
    clear hok hp HRS
    rcases hkk with rfl | rfl | rfl
    · go_wp2_with fail
      refine HRF.out.mono ?_
      rintro e w3 ⟨(⟨r3, r4, v, hok', rfl, hv⟩ | ⟨hno, _⟩), hb3⟩
      · obtain ⟨rfl, rfl⟩ := HOK.out.det hok'
        have HB3 := Lib.hid (HB2.out.trans (hb3.mono HB2.out.size))
        have Z5 := Lib.hid ((hb3.block _ m5).trans Z5.out)
        have m5 := (Array.getElem?_eq_some_iff.1 Z5.out).1
        have HP3 := Lib.hid (HP.out.below hb3)
        have HV3 := Lib.hid hv
        clear hb3 hok' hv
        obtain ⟨i0, i1, i2, i3, a4, n4, c4, a5, n5, c5, a6, n6, c6, a7, n7, c7, a8, n8, c8, a9, n9, c9, rfl⟩ := HV3.out.shape
        obtain ⟨W, hW⟩ : ∃ W, W = w3.alloc (Obj.cells #[.int .i64 i0, .int .i64 i1, .int .i64 i2, .int .i64 i3, .slice a4 n4 c4, .slice a5 n5 c5, .slice a6 n6 c6, .slice a7 n7 c7, .slice a8 n8 c8, .slice a9 n9 c9] 104) := ⟨_, rfl⟩
        have hbW : Below w3.heap.size w3 W := by rw [hW]; exact balloc (brefl _) _
        have x9 : W.heap[w3.heap.size]? = some (.cells #[.int .i64 i0, .int .i64 i1, .int .i64 i2, .int .i64 i3, .slice a4 n4 c4, .slice a5 n5 c5, .slice a6 n6 c6, .slice a7 n7 c7, .slice a8 n8 c8, .slice a9 n9 c9] 104 (0, 0)) := by rw [hW]; exact (heap_push _ _ _).trans (if_pos rfl)
        have X9 := Lib.hid x9
        have l9 := (Array.getElem?_eq_some_iff.1 x9).1
        have V5 := Lib.hid ((hbW.block _ m5).trans Z5.out)
        have k5 := (Array.getElem?_eq_some_iff.1 V5.out).1
        have HBW := Lib.hid (HB3.out.trans (hbW.mono HB3.out.size))
        have HPW := Lib.hid (HP3.out.below hbW)
        have HVW := Lib.hid (HV3.out.below hbW)
        have HGA := Lib.hid (fun (x y : Int) hx hy (X : World) (hX : Below W.heap.size W X) => pget_any _ _ g bs _ G r1 r2 x y X (HPW.out.below hX) HOK.out (by omega) hx hy)
        have HGR := Lib.hid (fun (x y : Int) hx hy (X : World) (hX : Below W.heap.size W X) => prefget_any _ a n c bs G r1 r2 _ x y X ((HH.out.below HBW.out).below hX) HL.out hn hc (by omega) HOK.out (by omega) (HVW.out.below hX) hx hy)
        clear x9 hbW
        go_wp2_with fail
        rw [← hW]
        clear hW
        go_loopw [11] (fun i wr => ∃ j : Nat, j ≤ 13 ∧ i = .int .i64 ((j : Int) - 1) ∧ Below W.heap.size W wr) (fun i _ => (12 - Go.RowKit.intOf i).toNat)
        case atStart => exact ⟨0, by decide, rfl, brefl _⟩
        case round =>
          obtain ⟨j, hj, rfl, hb⟩ := hrel
          rename World => wr
          have HB := Lib.hid hb
          have hzr := hb.size
          clear hb
          by_cases hlt : j < 13
          · have d2 : decide ((j : Int) - 1 < 12) = true := by simp; omega
            go_wp2_with fail
            go_loopw [12] (fun i wq => ∃ k : Nat, k ≤ 13 ∧ i = .int .i64 ((k : Int) - 1) ∧ Below W.heap.size W wq) (fun i _ => (12 - Go.RowKit.intOf i).toNat)
            case atStart => exact ⟨0, by decide, rfl, HB.out⟩
            case round =>
              obtain ⟨k, hk, rfl, hbq⟩ := hrel
              rename World => wq
              have HBQ := Lib.hid hbq
              have r9 := fun o => cell_of_heap ((hbq.block _ l9).trans X9.out) o
              have t9 := Nat.lt_of_lt_of_le l9 hbq.size
              by_cases hlk : k < 13
              · have d3 : decide ((k : Int) - 1 < 12) = true := by simp; omega
                have HGU := Lib.hid (fun (X : World) (hX : Below wq.heap.size wq X) => HGA.out ((j : Int) - 1) ((k : Int) - 1) (by omega) (by omega) X (HBQ.out.trans (hX.mono HBQ.out.size)))
                have HGV := Lib.hid (fun (X : World) (hX : Below wq.heap.size wq X) => HGR.out ((j : Int) - 1) ((k : Int) - 1) (by omega) (by omega) X (HBQ.out.trans (hX.mono HBQ.out.size)))
                generalize distF bs _ r1 r2 ((j : Int) - 1) ((k : Int) - 1) = z at HGU HGV
                clear hbq
                go_wp2_with fail
                refine wp_region_tree (.step 0 (.step 1 (.step 2 (.step 4 (.step 5 (.step 6 (.step 3 (.step 7 (.step 8 .nil))))))))) (by kernel_rfl) (by kernel_rfl) (by kernel_rfl) (by kernel_rfl) (by intro _ _ d_ _ _ h_; cases d_ <;> first | exact h_ | (dsimp +zetaDelta only at h_ ⊢; exact h_)) (fun w' => ∃ p : Wld wq [], w' = p.val) (wld_start _ _) ?_
                have hG_ := @wldC wq
                (refine tree_quiet gtA (by rfl) (by rfl) (fun K_ hK_ => ?_); go_big_quiet_op; refine hK_ _ ?_; clear hK_ K_)
                (refine tree_quiet gtA (by rfl) (by rfl) (fun K_ hK_ => ?_); go_big_quiet_op; refine hK_ _ ?_; clear hK_ K_)
                (refine tree_quiet gtA (by rfl) (by rfl) (fun K_ hK_ => ?_); go_big_quiet_op; refine hK_ _ ?_; clear hK_ K_)
                (refine tree_quiet gtA (by rfl) (by rfl) (fun K_ hK_ => ?_); go_big_quiet_op; refine hK_ _ ?_; clear hK_ K_)
                (refine tree_quiet gtA (by rfl) (by rfl) (fun K_ hK_ => ?_); go_big_quiet_op; refine hK_ _ ?_; clear hK_ K_)
                (refine tree_quiet gtA (by rfl) (by rfl) (fun K_ hK_ => ?_); go_big_quiet_op; refine hK_ _ ?_; clear hK_ K_)
                (refine tree_run gtA (by rfl) (by rfl) (fun K_ hK_ => ?_); have HK_ := Lib.hid hK_; clear hK_; go_wp2_with (first | (go_at_call 55; (with_reducible refine (HGU.out _ (by exact blw)).mono ?_); rintro e w5 ⟨rfl, hb5⟩; have h5c := bc hb5; have h5f := bf hb5; have h5z := hb5.size; try simp only [World.size_alloc, World.size_drew] at h5z) | (go_at_call 56; (with_reducible refine (HGV.out _ (by exact blw)).mono ?_); rintro e w6 ⟨rfl, hb6⟩; have h6c := bc hb6; have h6f := bf hb6; have h6z := hb6.size; try simp only [World.size_alloc, World.size_drew] at h6z)); refine HK_.out _ _ (wld_ofA) ?_; clear HK_)
                (refine tree_run gtA (by rfl) (by rfl) (fun K_ hK_ => ?_); have HK_ := Lib.hid hK_; clear hK_; go_wp2_with (first | (go_at_call 55; (with_reducible refine (HGU.out _ (by exact blw)).mono ?_); rintro e w5 ⟨rfl, hb5⟩; have h5c := bc hb5; have h5f := bf hb5; have h5z := hb5.size; try simp only [World.size_alloc, World.size_drew] at h5z) | (go_at_call 56; (with_reducible refine (HGV.out _ (by exact blw)).mono ?_); rintro e w6 ⟨rfl, hb6⟩; have h6c := bc hb6; have h6f := bf hb6; have h6z := hb6.size; try simp only [World.size_alloc, World.size_drew] at h6z)); refine HK_.out _ _ (wld_ofA) ?_; clear HK_)
                (refine tree_quiet gtA (by rfl) (by rfl) (fun K_ hK_ => ?_); go_big_quiet_op; refine hK_ _ ?_; clear hK_ K_)
                refine tree_nil ?_
                clear hG_
                have hb6u : Below wq.heap.size wq w6 := by exact blw
                have HB6 := Lib.hid (HBQ.out.trans (hb6u.mono HBQ.out.size))
                clear hb6u
                go_wp2_with fail
                go_roundw
                case rel => exact ⟨k + 1, hlk, by first | (congr 1; omega) | go_num, HB6.out⟩
                case measure => simp [Go.RowKit.intOf]; omega
              · have d3 : decide ((k : Int) - 1 < 12) = false := by simp; omega
                go_wp2_with fail
                go_roundw
                case rel => exact ⟨j + 1, hlt, by first | (congr 1; omega) | go_num, HBQ.out⟩
                case measure => simp [Go.RowKit.intOf]; omega
          · have d2 : decide ((j : Int) - 1 < 12) = false := by simp; omega
            have r9 := fun o => cell_of_heap ((HB.out.block _ l9).trans X9.out) o
            have t9 := Nat.lt_of_lt_of_le l9 HB.out.size
            have r5 := fun o => cell_of_heap ((HB.out.block _ k5).trans V5.out) o
            have t5 := Nat.lt_of_lt_of_le k5 HB.out.size
            have HGU := Lib.hid (fun (X : World) (hX : Below wr.heap.size wr X) => HGA.out l r hlb hrb X (HB.out.trans (hX.mono HB.out.size)))
            have HGV := Lib.hid (fun (X : World) (hX : Below wr.heap.size wr X) => HGR.out l r hlb hrb X (HB.out.trans (hX.mono HB.out.size)))
            generalize distF bs _ r1 r2 l r = z at HGU HGV
            go_wp2_with fail
            refine wp_region_tree (.step 0 (.step 1 (.step 2 (.step 3 (.step 4 (.step 6 (.step 7 (.step 8 (.step 9 (.step 10 (.step 5 (.step 11 (.step 12 (.step 13 .nil)))))))))))))) (by kernel_rfl) (by kernel_rfl) (by kernel_rfl) (by kernel_rfl) (by intro _ _ d_ _ _ h_; cases d_ <;> first | exact h_ | (dsimp +zetaDelta only at h_ ⊢; exact h_)) (fun w' => ∃ p : Wld wr [], w' = p.val) (wld_start _ _) ?_
            have hG_ := @wldC wr
            (refine tree_quiet gtA (by rfl) (by rfl) (fun K_ hK_ => ?_); go_big_quiet_op; refine hK_ _ ?_; clear hK_ K_)
            (refine tree_quiet gtA (by rfl) (by rfl) (fun K_ hK_ => ?_); go_big_quiet_op; refine hK_ _ ?_; clear hK_ K_)
            (refine tree_quiet gtA (by rfl) (by rfl) (fun K_ hK_ => ?_); go_big_quiet_op; refine hK_ _ ?_; clear hK_ K_)
            (refine tree_quiet gtA (by rfl) (by rfl) (fun K_ hK_ => ?_); go_big_quiet_op; refine hK_ _ ?_; clear hK_ K_)
            (refine tree_quiet gtA (by rfl) (by rfl) (fun K_ hK_ => ?_); go_big_quiet_op; refine hK_ _ ?_; clear hK_ K_)
            (refine tree_quiet gtA (by rfl) (by rfl) (fun K_ hK_ => ?_); go_big_quiet_op; refine hK_ _ ?_; clear hK_ K_)
            (refine tree_quiet gtA (by rfl) (by rfl) (fun K_ hK_ => ?_); go_big_quiet_op; refine hK_ _ ?_; clear hK_ K_)
            (refine tree_quiet gtA (by rfl) (by rfl) (fun K_ hK_ => ?_); go_big_quiet_op; refine hK_ _ ?_; clear hK_ K_)
            (refine tree_quiet gtA (by rfl) (by rfl) (fun K_ hK_ => ?_); go_big_quiet_op; refine hK_ _ ?_; clear hK_ K_)
            (refine tree_quiet gtA (by rfl) (by rfl) (fun K_ hK_ => ?_); go_big_quiet_op; refine hK_ _ ?_; clear hK_ K_)
            (refine tree_run gtA (by rfl) (by rfl) (fun K_ hK_ => ?_); have HK_ := Lib.hid hK_; clear hK_; go_wp2_with (first | (go_at_call 55; (with_reducible refine (HGU.out _ (by exact blw)).mono ?_); rintro e w5 ⟨rfl, hb5⟩; have h5c := bc hb5; have h5f := bf hb5; have h5z := hb5.size; try simp only [World.size_alloc, World.size_drew] at h5z) | (go_at_call 56; (with_reducible refine (HGV.out _ (by exact blw)).mono ?_); rintro e w6 ⟨rfl, hb6⟩; have h6c := bc hb6; have h6f := bf hb6; have h6z := hb6.size; try simp only [World.size_alloc, World.size_drew] at h6z)); refine HK_.out _ _ (wld_ofA) ?_; clear HK_)
            (refine tree_run gtA (by rfl) (by rfl) (fun K_ hK_ => ?_); have HK_ := Lib.hid hK_; clear hK_; go_wp2_with (first | (go_at_call 55; (with_reducible refine (HGU.out _ (by exact blw)).mono ?_); rintro e w5 ⟨rfl, hb5⟩; have h5c := bc hb5; have h5f := bf hb5; have h5z := hb5.size; try simp only [World.size_alloc, World.size_drew] at h5z) | (go_at_call 56; (with_reducible refine (HGV.out _ (by exact blw)).mono ?_); rintro e w6 ⟨rfl, hb6⟩; have h6c := bc hb6; have h6f := bf hb6; have h6z := hb6.size; try simp only [World.size_alloc, World.size_drew] at h6z)); refine HK_.out _ _ (wld_ofA) ?_; clear HK_)
            (refine tree_quiet gtA (by rfl) (by rfl) (fun K_ hK_ => ?_); go_big_quiet_op; refine hK_ _ ?_; clear hK_ K_)
            (refine tree_quiet gtA (by rfl) (by rfl) (fun K_ hK_ => ?_); go_big_quiet_op; refine hK_ _ ?_; clear hK_ K_)
            refine tree_nil ?_
            clear hG_
            have hb6u : Below wr.heap.size wr w6 := by exact blw
            have HB6 := Lib.hid (HB.out.trans (hb6u.mono HB.out.size))
            clear hb6u
            go_wp2_with fail
            go_ret
            exact ⟨by first | rfl | simp, HBW.out.trans (HB6.out.mono HBW.out.size)⟩
      · exact absurd HOK.out (hno r1 r2)
    · go_wp2_with fail
      refine HRF.out.mono ?_
      rintro e w3 ⟨(⟨r3, r4, v, hok', rfl, hv⟩ | ⟨hno, _⟩), hb3⟩
      · obtain ⟨rfl, rfl⟩ := HOK.out.det hok'
        have HB3 := Lib.hid (HB2.out.trans (hb3.mono HB2.out.size))
        have Z5 := Lib.hid ((hb3.block _ m5).trans Z5.out)
        have m5 := (Array.getElem?_eq_some_iff.1 Z5.out).1
        have HP3 := Lib.hid (HP.out.below hb3)
        have HV3 := Lib.hid hv
        clear hb3 hok' hv
        obtain ⟨i0, i1, i2, i3, a4, n4, c4, a5, n5, c5, a6, n6, c6, a7, n7, c7, a8, n8, c8, a9, n9, c9, rfl⟩ := HV3.out.shape
        obtain ⟨W, hW⟩ : ∃ W, W = w3.alloc (Obj.cells #[.int .i64 i0, .int .i64 i1, .int .i64 i2, .int .i64 i3, .slice a4 n4 c4, .slice a5 n5 c5, .slice a6 n6 c6, .slice a7 n7 c7, .slice a8 n8 c8, .slice a9 n9 c9] 104) := ⟨_, rfl⟩
        have hbW : Below w3.heap.size w3 W := by rw [hW]; exact balloc (brefl _) _
        have x9 : W.heap[w3.heap.size]? = some (.cells #[.int .i64 i0, .int .i64 i1, .int .i64 i2, .int .i64 i3, .slice a4 n4 c4, .slice a5 n5 c5, .slice a6 n6 c6, .slice a7 n7 c7, .slice a8 n8 c8, .slice a9 n9 c9] 104 (0, 0)) := by rw [hW]; exact (heap_push _ _ _).trans (if_pos rfl)
        have X9 := Lib.hid x9
        have l9 := (Array.getElem?_eq_some_iff.1 x9).1
        have V5 := Lib.hid ((hbW.block _ m5).trans Z5.out)
        have k5 := (Array.getElem?_eq_some_iff.1 V5.out).1
        have HBW := Lib.hid (HB3.out.trans (hbW.mono HB3.out.size))
        have HPW := Lib.hid (HP3.out.below hbW)
        have HVW := Lib.hid (HV3.out.below hbW)
        have HGA := Lib.hid (fun (x y : Int) hx hy (X : World) (hX : Below W.heap.size W X) => pget_any _ _ g bs _ G r1 r2 x y X (HPW.out.below hX) HOK.out (by omega) hx hy)
        have HGR := Lib.hid (fun (x y : Int) hx hy (X : World) (hX : Below W.heap.size W X) => prefget_any _ a n c bs G r1 r2 _ x y X ((HH.out.below HBW.out).below hX) HL.out hn hc (by omega) HOK.out (by omega) (HVW.out.below hX) hx hy)
        clear x9 hbW
        go_wp2_with fail
        rw [← hW]
        clear hW
        go_loopw [11] (fun i wr => ∃ j : Nat, j ≤ 13 ∧ i = .int .i64 ((j : Int) - 1) ∧ Below W.heap.size W wr) (fun i _ => (12 - Go.RowKit.intOf i).toNat)
        case atStart => exact ⟨0, by decide, rfl, brefl _⟩
        case round =>
          obtain ⟨j, hj, rfl, hb⟩ := hrel
          rename World => wr
          have HB := Lib.hid hb
          have hzr := hb.size
          clear hb
          by_cases hlt : j < 13
          · have d2 : decide ((j : Int) - 1 < 12) = true := by simp; omega
            go_wp2_with fail
            go_loopw [12] (fun i wq => ∃ k : Nat, k ≤ 13 ∧ i = .int .i64 ((k : Int) - 1) ∧ Below W.heap.size W wq) (fun i _ => (12 - Go.RowKit.intOf i).toNat)
            case atStart => exact ⟨0, by decide, rfl, HB.out⟩
            case round =>
              obtain ⟨k, hk, rfl, hbq⟩ := hrel
              rename World => wq
              have HBQ := Lib.hid hbq
              have r9 := fun o => cell_of_heap ((hbq.block _ l9).trans X9.out) o
              have t9 := Nat.lt_of_lt_of_le l9 hbq.size
              by_cases hlk : k < 13
              · have d3 : decide ((k : Int) - 1 < 12) = true := by simp; omega
                have HGU := Lib.hid (fun (X : World) (hX : Below wq.heap.size wq X) => HGA.out ((j : Int) - 1) ((k : Int) - 1) (by omega) (by omega) X (HBQ.out.trans (hX.mono HBQ.out.size)))
                have HGV := Lib.hid (fun (X : World) (hX : Below wq.heap.size wq X) => HGR.out ((j : Int) - 1) ((k : Int) - 1) (by omega) (by omega) X (HBQ.out.trans (hX.mono HBQ.out.size)))
                generalize distF bs _ r1 r2 ((j : Int) - 1) ((k : Int) - 1) = z at HGU HGV
                clear hbq
                go_wp2_with fail
                refine wp_region_tree (.step 0 (.step 1 (.step 2 (.step 4 (.step 5 (.step 6 (.step 3 (.step 7 (.step 8 .nil))))))))) (by kernel_rfl) (by kernel_rfl) (by kernel_rfl) (by kernel_rfl) (by intro _ _ d_ _ _ h_; cases d_ <;> first | exact h_ | (dsimp +zetaDelta only at h_ ⊢; exact h_)) (fun w' => ∃ p : Wld wq [], w' = p.val) (wld_start _ _) ?_
                have hG_ := @wldC wq
                (refine tree_quiet gtA (by rfl) (by rfl) (fun K_ hK_ => ?_); go_big_quiet_op; refine hK_ _ ?_; clear hK_ K_)
                (refine tree_quiet gtA (by rfl) (by rfl) (fun K_ hK_ => ?_); go_big_quiet_op; refine hK_ _ ?_; clear hK_ K_)
                (refine tree_quiet gtA (by rfl) (by rfl) (fun K_ hK_ => ?_); go_big_quiet_op; refine hK_ _ ?_; clear hK_ K_)
                (refine tree_quiet gtA (by rfl) (by rfl) (fun K_ hK_ => ?_); go_big_quiet_op; refine hK_ _ ?_; clear hK_ K_)
                (refine tree_quiet gtA (by rfl) (by rfl) (fun K_ hK_ => ?_); go_big_quiet_op; refine hK_ _ ?_; clear hK_ K_)
                (refine tree_quiet gtA (by rfl) (by rfl) (fun K_ hK_ => ?_); go_big_quiet_op; refine hK_ _ ?_; clear hK_ K_)
                (refine tree_run gtA (by rfl) (by rfl) (fun K_ hK_ => ?_); have HK_ := Lib.hid hK_; clear hK_; go_wp2_with (first | (go_at_call 55; (with_reducible refine (HGU.out _ (by exact blw)).mono ?_); rintro e w5 ⟨rfl, hb5⟩; have h5c := bc hb5; have h5f := bf hb5; have h5z := hb5.size; try simp only [World.size_alloc, World.size_drew] at h5z) | (go_at_call 56; (with_reducible refine (HGV.out _ (by exact blw)).mono ?_); rintro e w6 ⟨rfl, hb6⟩; have h6c := bc hb6; have h6f := bf hb6; have h6z := hb6.size; try simp only [World.size_alloc, World.size_drew] at h6z)); refine HK_.out _ _ (wld_ofA) ?_; clear HK_)
                (refine tree_run gtA (by rfl) (by rfl) (fun K_ hK_ => ?_); have HK_ := Lib.hid hK_; clear hK_; go_wp2_with (first | (go_at_call 55; (with_reducible refine (HGU.out _ (by exact blw)).mono ?_); rintro e w5 ⟨rfl, hb5⟩; have h5c := bc hb5; have h5f := bf hb5; have h5z := hb5.size; try simp only [World.size_alloc, World.size_drew] at h5z) | (go_at_call 56; (with_reducible refine (HGV.out _ (by exact blw)).mono ?_); rintro e w6 ⟨rfl, hb6⟩; have h6c := bc hb6; have h6f := bf hb6; have h6z := hb6.size; try simp only [World.size_alloc, World.size_drew] at h6z)); refine HK_.out _ _ (wld_ofA) ?_; clear HK_)
                (refine tree_quiet gtA (by rfl) (by rfl) (fun K_ hK_ => ?_); go_big_quiet_op; refine hK_ _ ?_; clear hK_ K_)
                refine tree_nil ?_
                clear hG_
                have hb6u : Below wq.heap.size wq w6 := by exact blw
                have HB6 := Lib.hid (HBQ.out.trans (hb6u.mono HBQ.out.size))
                clear hb6u
                go_wp2_with fail
                go_roundw
                case rel => exact ⟨k + 1, hlk, by first | (congr 1; omega) | go_num, HB6.out⟩
                case measure => simp [Go.RowKit.intOf]; omega
              · have d3 : decide ((k : Int) - 1 < 12) = false := by simp; omega
                go_wp2_with fail
                go_roundw
                case rel => exact ⟨j + 1, hlt, by first | (congr 1; omega) | go_num, HBQ.out⟩
                case measure => simp [Go.RowKit.intOf]; omega
          · have d2 : decide ((j : Int) - 1 < 12) = false := by simp; omega
            have r9 := fun o => cell_of_heap ((HB.out.block _ l9).trans X9.out) o
            have t9 := Nat.lt_of_lt_of_le l9 HB.out.size
            have r5 := fun o => cell_of_heap ((HB.out.block _ k5).trans V5.out) o
            have t5 := Nat.lt_of_lt_of_le k5 HB.out.size
            have HGU := Lib.hid (fun (X : World) (hX : Below wr.heap.size wr X) => HGA.out l r hlb hrb X (HB.out.trans (hX.mono HB.out.size)))
            have HGV := Lib.hid (fun (X : World) (hX : Below wr.heap.size wr X) => HGR.out l r hlb hrb X (HB.out.trans (hX.mono HB.out.size)))
            generalize distF bs _ r1 r2 l r = z at HGU HGV
            go_wp2_with fail
            refine wp_region_tree (.step 0 (.step 1 (.step 2 (.step 3 (.step 4 (.step 6 (.step 7 (.step 8 (.step 9 (.step 10 (.step 5 (.step 11 (.step 12 (.step 13 .nil)))))))))))))) (by kernel_rfl) (by kernel_rfl) (by kernel_rfl) (by kernel_rfl) (by intro _ _ d_ _ _ h_; cases d_ <;> first | exact h_ | (dsimp +zetaDelta only at h_ ⊢; exact h_)) (fun w' => ∃ p : Wld wr [], w' = p.val) (wld_start _ _) ?_
            have hG_ := @wldC wr
            (refine tree_quiet gtA (by rfl) (by rfl) (fun K_ hK_ => ?_); go_big_quiet_op; refine hK_ _ ?_; clear hK_ K_)
            (refine tree_quiet gtA (by rfl) (by rfl) (fun K_ hK_ => ?_); go_big_quiet_op; refine hK_ _ ?_; clear hK_ K_)
            (refine tree_quiet gtA (by rfl) (by rfl) (fun K_ hK_ => ?_); go_big_quiet_op; refine hK_ _ ?_; clear hK_ K_)
            (refine tree_quiet gtA (by rfl) (by rfl) (fun K_ hK_ => ?_); go_big_quiet_op; refine hK_ _ ?_; clear hK_ K_)
            (refine tree_quiet gtA (by rfl) (by rfl) (fun K_ hK_ => ?_); go_big_quiet_op; refine hK_ _ ?_; clear hK_ K_)
            (refine tree_quiet gtA (by rfl) (by rfl) (fun K_ hK_ => ?_); go_big_quiet_op; refine hK_ _ ?_; clear hK_ K_)
            (refine tree_quiet gtA (by rfl) (by rfl) (fun K_ hK_ => ?_); go_big_quiet_op; refine hK_ _ ?_; clear hK_ K_)
            (refine tree_quiet gtA (by rfl) (by rfl) (fun K_ hK_ => ?_); go_big_quiet_op; refine hK_ _ ?_; clear hK_ K_)
            (refine tree_quiet gtA (by rfl) (by rfl) (fun K_ hK_ => ?_); go_big_quiet_op; refine hK_ _ ?_; clear hK_ K_)
            (refine tree_quiet gtA (by rfl) (by rfl) (fun K_ hK_ => ?_); go_big_quiet_op; refine hK_ _ ?_; clear hK_ K_)
            (refine tree_run gtA (by rfl) (by rfl) (fun K_ hK_ => ?_); have HK_ := Lib.hid hK_; clear hK_; go_wp2_with (first | (go_at_call 55; (with_reducible refine (HGU.out _ (by exact blw)).mono ?_); rintro e w5 ⟨rfl, hb5⟩; have h5c := bc hb5; have h5f := bf hb5; have h5z := hb5.size; try simp only [World.size_alloc, World.size_drew] at h5z) | (go_at_call 56; (with_reducible refine (HGV.out _ (by exact blw)).mono ?_); rintro e w6 ⟨rfl, hb6⟩; have h6c := bc hb6; have h6f := bf hb6; have h6z := hb6.size; try simp only [World.size_alloc, World.size_drew] at h6z)); refine HK_.out _ _ (wld_ofA) ?_; clear HK_)
            (refine tree_run gtA (by rfl) (by rfl) (fun K_ hK_ => ?_); have HK_ := Lib.hid hK_; clear hK_; go_wp2_with (first | (go_at_call 55; (with_reducible refine (HGU.out _ (by exact blw)).mono ?_); rintro e w5 ⟨rfl, hb5⟩; have h5c := bc hb5; have h5f := bf hb5; have h5z := hb5.size; try simp only [World.size_alloc, World.size_drew] at h5z) | (go_at_call 56; (with_reducible refine (HGV.out _ (by exact blw)).mono ?_); rintro e w6 ⟨rfl, hb6⟩; have h6c := bc hb6; have h6f := bf hb6; have h6z := hb6.size; try simp only [World.size_alloc, World.size_drew] at h6z)); refine HK_.out _ _ (wld_ofA) ?_; clear HK_)
            (refine tree_quiet gtA (by rfl) (by rfl) (fun K_ hK_ => ?_); go_big_quiet_op; refine hK_ _ ?_; clear hK_ K_)
            (refine tree_quiet gtA (by rfl) (by rfl) (fun K_ hK_ => ?_); go_big_quiet_op; refine hK_ _ ?_; clear hK_ K_)
            refine tree_nil ?_
            clear hG_
            have hb6u : Below wr.heap.size wr w6 := by exact blw
            have HB6 := Lib.hid (HB.out.trans (hb6u.mono HB.out.size))
            clear hb6u
            go_wp2_with fail
            go_ret
            exact ⟨by first | rfl | simp, HBW.out.trans (HB6.out.mono HBW.out.size)⟩
      · exact absurd HOK.out (hno r1 r2)
    · go_wp2_with fail
      refine HRF.out.mono ?_
      rintro e w3 ⟨(⟨r3, r4, v, hok', rfl, hv⟩ | ⟨hno, _⟩), hb3⟩
      · obtain ⟨rfl, rfl⟩ := HOK.out.det hok'
        have HB3 := Lib.hid (HB2.out.trans (hb3.mono HB2.out.size))
        have Z5 := Lib.hid ((hb3.block _ m5).trans Z5.out)
        have m5 := (Array.getElem?_eq_some_iff.1 Z5.out).1
        have HP3 := Lib.hid (HP.out.below hb3)
        have HV3 := Lib.hid hv
        clear hb3 hok' hv
        obtain ⟨i0, i1, i2, i3, a4, n4, c4, a5, n5, c5, a6, n6, c6, a7, n7, c7, a8, n8, c8, a9, n9, c9, rfl⟩ := HV3.out.shape
        obtain ⟨W, hW⟩ : ∃ W, W = w3.alloc (Obj.cells #[.int .i64 i0, .int .i64 i1, .int .i64 i2, .int .i64 i3, .slice a4 n4 c4, .slice a5 n5 c5, .slice a6 n6 c6, .slice a7 n7 c7, .slice a8 n8 c8, .slice a9 n9 c9] 104) := ⟨_, rfl⟩
        have hbW : Below w3.heap.size w3 W := by rw [hW]; exact balloc (brefl _) _
        have x9 : W.heap[w3.heap.size]? = some (.cells #[.int .i64 i0, .int .i64 i1, .int .i64 i2, .int .i64 i3, .slice a4 n4 c4, .slice a5 n5 c5, .slice a6 n6 c6, .slice a7 n7 c7, .slice a8 n8 c8, .slice a9 n9 c9] 104 (0, 0)) := by rw [hW]; exact (heap_push _ _ _).trans (if_pos rfl)
        have X9 := Lib.hid x9
        have l9 := (Array.getElem?_eq_some_iff.1 x9).1
        have V5 := Lib.hid ((hbW.block _ m5).trans Z5.out)
        have k5 := (Array.getElem?_eq_some_iff.1 V5.out).1
        have HBW := Lib.hid (HB3.out.trans (hbW.mono HB3.out.size))
        have HPW := Lib.hid (HP3.out.below hbW)
        have HVW := Lib.hid (HV3.out.below hbW)
        have HGA := Lib.hid (fun (x y : Int) hx hy (X : World) (hX : Below W.heap.size W X) => pget_any _ _ g bs _ G r1 r2 x y X (HPW.out.below hX) HOK.out (by omega) hx hy)
        have HGR := Lib.hid (fun (x y : Int) hx hy (X : World) (hX : Below W.heap.size W X) => prefget_any _ a n c bs G r1 r2 _ x y X ((HH.out.below HBW.out).below hX) HL.out hn hc (by omega) HOK.out (by omega) (HVW.out.below hX) hx hy)
        clear x9 hbW
        go_wp2_with fail
        rw [← hW]
        clear hW
        go_loopw [11] (fun i wr => ∃ j : Nat, j ≤ 13 ∧ i = .int .i64 ((j : Int) - 1) ∧ Below W.heap.size W wr) (fun i _ => (12 - Go.RowKit.intOf i).toNat)
        case atStart => exact ⟨0, by decide, rfl, brefl _⟩
        case round =>
          obtain ⟨j, hj, rfl, hb⟩ := hrel
          rename World => wr
          have HB := Lib.hid hb
          have hzr := hb.size
          clear hb
          by_cases hlt : j < 13
          · have d2 : decide ((j : Int) - 1 < 12) = true := by simp; omega
            go_wp2_with fail
            go_loopw [12] (fun i wq => ∃ k : Nat, k ≤ 13 ∧ i = .int .i64 ((k : Int) - 1) ∧ Below W.heap.size W wq) (fun i _ => (12 - Go.RowKit.intOf i).toNat)
            case atStart => exact ⟨0, by decide, rfl, HB.out⟩
            case round =>
              obtain ⟨k, hk, rfl, hbq⟩ := hrel
              rename World => wq
              have HBQ := Lib.hid hbq
              have r9 := fun o => cell_of_heap ((hbq.block _ l9).trans X9.out) o
              have t9 := Nat.lt_of_lt_of_le l9 hbq.size
              by_cases hlk : k < 13
              · have d3 : decide ((k : Int) - 1 < 12) = true := by simp; omega
                have HGU := Lib.hid (fun (X : World) (hX : Below wq.heap.size wq X) => HGA.out ((j : Int) - 1) ((k : Int) - 1) (by omega) (by omega) X (HBQ.out.trans (hX.mono HBQ.out.size)))
                have HGV := Lib.hid (fun (X : World) (hX : Below wq.heap.size wq X) => HGR.out ((j : Int) - 1) ((k : Int) - 1) (by omega) (by omega) X (HBQ.out.trans (hX.mono HBQ.out.size)))
                generalize distF bs _ r1 r2 ((j : Int) - 1) ((k : Int) - 1) = z at HGU HGV
                clear hbq
                go_wp2_with fail
                refine wp_region_tree (.step 0 (.step 1 (.step 2 (.step 4 (.step 5 (.step 6 (.step 3 (.step 7 (.step 8 .nil))))))))) (by kernel_rfl) (by kernel_rfl) (by kernel_rfl) (by kernel_rfl) (by intro _ _ d_ _ _ h_; cases d_ <;> first | exact h_ | (dsimp +zetaDelta only at h_ ⊢; exact h_)) (fun w' => ∃ p : Wld wq [], w' = p.val) (wld_start _ _) ?_
                have hG_ := @wldC wq
                (refine tree_quiet gtA (by rfl) (by rfl) (fun K_ hK_ => ?_); go_big_quiet_op; refine hK_ _ ?_; clear hK_ K_)
                (refine tree_quiet gtA (by rfl) (by rfl) (fun K_ hK_ => ?_); go_big_quiet_op; refine hK_ _ ?_; clear hK_ K_)
                (refine tree_quiet gtA (by rfl) (by rfl) (fun K_ hK_ => ?_); go_big_quiet_op; refine hK_ _ ?_; clear hK_ K_)
                (refine tree_quiet gtA (by rfl) (by rfl) (fun K_ hK_ => ?_); go_big_quiet_op; refine hK_ _ ?_; clear hK_ K_)
                (refine tree_quiet gtA (by rfl) (by rfl) (fun K_ hK_ => ?_); go_big_quiet_op; refine hK_ _ ?_; clear hK_ K_)
                (refine tree_quiet gtA (by rfl) (by rfl) (fun K_ hK_ => ?_); go_big_quiet_op; refine hK_ _ ?_; clear hK_ K_)
                (refine tree_run gtA (by rfl) (by rfl) (fun K_ hK_ => ?_); have HK_ := Lib.hid hK_; clear hK_; go_wp2_with (first | (go_at_call 55; (with_reducible refine (HGU.out _ (by exact blw)).mono ?_); rintro e w5 ⟨rfl, hb5⟩; have h5c := bc hb5; have h5f := bf hb5; have h5z := hb5.size; try simp only [World.size_alloc, World.size_drew] at h5z) | (go_at_call 56; (with_reducible refine (HGV.out _ (by exact blw)).mono ?_); rintro e w6 ⟨rfl, hb6⟩; have h6c := bc hb6; have h6f := bf hb6; have h6z := hb6.size; try simp only [World.size_alloc, World.size_drew] at h6z)); refine HK_.out _ _ (wld_ofA) ?_; clear HK_)
                (refine tree_run gtA (by rfl) (by rfl) (fun K_ hK_ => ?_); have HK_ := Lib.hid hK_; clear hK_; go_wp2_with (first | (go_at_call 55; (with_reducible refine (HGU.out _ (by exact blw)).mono ?_); rintro e w5 ⟨rfl, hb5⟩; have h5c := bc hb5; have h5f := bf hb5; have h5z := hb5.size; try simp only [World.size_alloc, World.size_drew] at h5z) | (go_at_call 56; (with_reducible refine (HGV.out _ (by exact blw)).mono ?_); rintro e w6 ⟨rfl, hb6⟩; have h6c := bc hb6; have h6f := bf hb6; have h6z := hb6.size; try simp only [World.size_alloc, World.size_drew] at h6z)); refine HK_.out _ _ (wld_ofA) ?_; clear HK_)
                (refine tree_quiet gtA (by rfl) (by rfl) (fun K_ hK_ => ?_); go_big_quiet_op; refine hK_ _ ?_; clear hK_ K_)
                refine tree_nil ?_
                clear hG_
                have hb6u : Below wq.heap.size wq w6 := by exact blw
                have HB6 := Lib.hid (HBQ.out.trans (hb6u.mono HBQ.out.size))
                clear hb6u
                go_wp2_with fail
                go_roundw
                case rel => exact ⟨k + 1, hlk, by first | (congr 1; omega) | go_num, HB6.out⟩
                case measure => simp [Go.RowKit.intOf]; omega
              · have d3 : decide ((k : Int) - 1 < 12) = false := by simp; omega
                go_wp2_with fail
                go_roundw
                case rel => exact ⟨j + 1, hlt, by first | (congr 1; omega) | go_num, HBQ.out⟩
                case measure => simp [Go.RowKit.intOf]; omega
          · have d2 : decide ((j : Int) - 1 < 12) = false := by simp; omega
            have r9 := fun o => cell_of_heap ((HB.out.block _ l9).trans X9.out) o
            have t9 := Nat.lt_of_lt_of_le l9 HB.out.size
            have r5 := fun o => cell_of_heap ((HB.out.block _ k5).trans V5.out) o
            have t5 := Nat.lt_of_lt_of_le k5 HB.out.size
            have HGU := Lib.hid (fun (X : World) (hX : Below wr.heap.size wr X) => HGA.out l r hlb hrb X (HB.out.trans (hX.mono HB.out.size)))
            have HGV := Lib.hid (fun (X : World) (hX : Below wr.heap.size wr X) => HGR.out l r hlb hrb X (HB.out.trans (hX.mono HB.out.size)))
            generalize distF bs _ r1 r2 l r = z at HGU HGV
            go_wp2_with fail
            refine wp_region_tree (.step 0 (.step 1 (.step 2 (.step 3 (.step 4 (.step 6 (.step 7 (.step 8 (.step 9 (.step 10 (.step 5 (.step 11 (.step 12 (.step 13 .nil)))))))))))))) (by kernel_rfl) (by kernel_rfl) (by kernel_rfl) (by kernel_rfl) (by intro _ _ d_ _ _ h_; cases d_ <;> first | exact h_ | (dsimp +zetaDelta only at h_ ⊢; exact h_)) (fun w' => ∃ p : Wld wr [], w' = p.val) (wld_start _ _) ?_
            have hG_ := @wldC wr
            (refine tree_quiet gtA (by rfl) (by rfl) (fun K_ hK_ => ?_); go_big_quiet_op; refine hK_ _ ?_; clear hK_ K_)
            (refine tree_quiet gtA (by rfl) (by rfl) (fun K_ hK_ => ?_); go_big_quiet_op; refine hK_ _ ?_; clear hK_ K_)
            (refine tree_quiet gtA (by rfl) (by rfl) (fun K_ hK_ => ?_); go_big_quiet_op; refine hK_ _ ?_; clear hK_ K_)
            (refine tree_quiet gtA (by rfl) (by rfl) (fun K_ hK_ => ?_); go_big_quiet_op; refine hK_ _ ?_; clear hK_ K_)
            (refine tree_quiet gtA (by rfl) (by rfl) (fun K_ hK_ => ?_); go_big_quiet_op; refine hK_ _ ?_; clear hK_ K_)
            (refine tree_quiet gtA (by rfl) (by rfl) (fun K_ hK_ => ?_); go_big_quiet_op; refine hK_ _ ?_; clear hK_ K_)
            (refine tree_quiet gtA (by rfl) (by rfl) (fun K_ hK_ => ?_); go_big_quiet_op; refine hK_ _ ?_; clear hK_ K_)
            (refine tree_quiet gtA (by rfl) (by rfl) (fun K_ hK_ => ?_); go_big_quiet_op; refine hK_ _ ?_; clear hK_ K_)
            (refine tree_quiet gtA (by rfl) (by rfl) (fun K_ hK_ => ?_); go_big_quiet_op; refine hK_ _ ?_; clear hK_ K_)
            (refine tree_quiet gtA (by rfl) (by rfl) (fun K_ hK_ => ?_); go_big_quiet_op; refine hK_ _ ?_; clear hK_ K_)
            (refine tree_run gtA (by rfl) (by rfl) (fun K_ hK_ => ?_); have HK_ := Lib.hid hK_; clear hK_; go_wp2_with (first | (go_at_call 55; (with_reducible refine (HGU.out _ (by exact blw)).mono ?_); rintro e w5 ⟨rfl, hb5⟩; have h5c := bc hb5; have h5f := bf hb5; have h5z := hb5.size; try simp only [World.size_alloc, World.size_drew] at h5z) | (go_at_call 56; (with_reducible refine (HGV.out _ (by exact blw)).mono ?_); rintro e w6 ⟨rfl, hb6⟩; have h6c := bc hb6; have h6f := bf hb6; have h6z := hb6.size; try simp only [World.size_alloc, World.size_drew] at h6z)); refine HK_.out _ _ (wld_ofA) ?_; clear HK_)
            (refine tree_run gtA (by rfl) (by rfl) (fun K_ hK_ => ?_); have HK_ := Lib.hid hK_; clear hK_; go_wp2_with (first | (go_at_call 55; (with_reducible refine (HGU.out _ (by exact blw)).mono ?_); rintro e w5 ⟨rfl, hb5⟩; have h5c := bc hb5; have h5f := bf hb5; have h5z := hb5.size; try simp only [World.size_alloc, World.size_drew] at h5z) | (go_at_call 56; (with_reducible refine (HGV.out _ (by exact blw)).mono ?_); rintro e w6 ⟨rfl, hb6⟩; have h6c := bc hb6; have h6f := bf hb6; have h6z := hb6.size; try simp only [World.size_alloc, World.size_drew] at h6z)); refine HK_.out _ _ (wld_ofA) ?_; clear HK_)
            (refine tree_quiet gtA (by rfl) (by rfl) (fun K_ hK_ => ?_); go_big_quiet_op; refine hK_ _ ?_; clear hK_ K_)
            (refine tree_quiet gtA (by rfl) (by rfl) (fun K_ hK_ => ?_); go_big_quiet_op; refine hK_ _ ?_; clear hK_ K_)
            refine tree_nil ?_
            clear hG_
            have hb6u : Below wr.heap.size wr w6 := by exact blw
            have HB6 := Lib.hid (HB.out.trans (hb6u.mono HB.out.size))
            clear hb6u
            go_wp2_with fail
            go_ret
            exact ⟨by first | rfl | simp, HBW.out.trans (HB6.out.mono HBW.out.size)⟩
      · exact absurd HOK.out (hno r1 r2)

open Go.ChangeShapes Go.WideShapes Go.ChangeAt Go.RowKit
open Go.ChangeMaps (open_string shut_string)

set_option maxRecDepth 100000 in
theorem pairReads_walks (H : Type) (enc : TypeId × Value → H) : Walks H enc 10 [22, 99, 99] := by
  intro W base args ds p hval hA _
  obtain ⟨v0, vs0, d0, ds0, p0, q0, hargs, rfl, rfl, h0, r0⟩ := trodAll_cons hA
  obtain ⟨v1, vs1, d1, ds1, p1, q1, rfl, rfl, rfl, h1, r1⟩ := trodAll_cons r0
  obtain ⟨v2, vs2, d2, ds2, p2, q2, rfl, rfl, rfl, h2, r2⟩ := trodAll_cons r1
  obtain ⟨rfl, rfl, rfl⟩ := trodAll_nil r2
  obtain rfl : args = #[v0, v1, v2] := by cases args; simp_all
  obtain ⟨a0, n0, c0, x0, rfl, e0, f0, g0, j0, k0⟩ := open_bytes Try.underlying22 Try.underlying5 (by kernel_rfl) (hval 0 22 v0 rfl rfl) h0
  obtain ⟨zs1, rfl, l1, t1⟩ := open_array Try.underlying99 Try.underlying3 (by kernel_rfl) (by kernel_rfl) (hval 1 99 v1 rfl rfl) h1
  obtain ⟨zs2, rfl, l2, t2⟩ := open_array Try.underlying99 Try.underlying3 (by kernel_rfl) (by kernel_rfl) (hval 2 99 v2 rfl rfl) h2
  match zs1, l1, zs2, l2, t2 with
  | [y0, y1], _, [y2, y3], _, t2 => exact pairReads_walk a0 n0 c0 x0 y0 y1 y2 y3 W e0 f0 g0 j0 (wf_i64 (t2 y2 (by simp))) (wf_i64 (t2 y3 (by simp)))

set_option maxRecDepth 100000 in
theorem pairReads_lifted (os : Os) (started : os.Started) (H : Type) (enc : TypeId × Value → H) :
    ReturnsInHanded {} Try.checked os 10 .any (Rows.pairReadsSpec.pre6 enc Try.prog Try.f10 Rows.pairReadsRow.domain false) (Rows.pairReadsSpec.post enc Try.prog Try.f10 false true false false) :=
  lift_law (s := Rows.pairReadsSpec) (fn := Try.f10) started (by kernel_rfl) Try.func10
    (ChangeSpec.witness6 (enc := enc) (C := Try.checked) false ⟨#[], #[.slice none 0 0, .agg #[.int .i64 0, .int .i64 0], .agg #[.int .i64 0, .int .i64 0]], []⟩ 8 (by kernel_rfl) (by kernel_rfl) (by kernel_rfl) (by kernel_rfl))
    rfl rfl (fun ds h => by match ds, h with | [d0, d1, d2], _ => rfl) (by intro t ht; simp [Try.params10] at ht; first | (subst ht; exact ⟨by kernel_rfl, of_decide_eq_true (by kernel_rfl)⟩) | (obtain rfl | rfl := ht <;> exact ⟨by kernel_rfl, of_decide_eq_true (by kernel_rfl)⟩) | (obtain rfl | rfl | rfl := ht <;> exact ⟨by kernel_rfl, of_decide_eq_true (by kernel_rfl)⟩) | (obtain rfl | rfl | rfl | rfl := ht <;> exact ⟨by kernel_rfl, of_decide_eq_true (by kernel_rfl)⟩))
    (by rw [Try.params10]; exact pairReads_walks H enc)
theorem pairReads_over : Rows.pairReadsRow.holds Try.pinned (OpenSpec.ofChange Rows.pairReadsSpec) :=
  OpenClaim.holds_of_wide 10 Try.f10 rfl rfl rfl rfl rfl rfl rfl ⟨rfl, rfl, rfl, rfl, rfl⟩ rfl rfl rfl rfl rfl (by kernel_rfl) Try.func10 (by kernel_rfl)
    (of_decide_eq_true (by kernel_rfl)) (by unfold Func.isWrapper; first | (rw [if_pos (by decide +kernel)]; kernel_rfl) | (rw [if_neg (by decide +kernel)]; exact ⟨rfl, rfl⟩))
    (fun os started H enc _ => pairReads_lifted os started H enc)
theorem pairReads_proved : Rows.PairReadsSaid := pairReads_over
#print axioms pairReads_proved
end Go.Proofs.Ytbicnkopmamnpaa
