/- Joined from: CWrite XRun XRead CEight XSpk XTake. -/
import Derived.Test.YtcegoenlajkgfaaJ08
import Derived.Test.YtcegoenlajkgfaaJ03
import Derived.Test.YtcegoenlajkgfaaJ02
import Derived.Test.YtcegoenlajkgfaaJ09
import Derived.Test.YtcegoenlajkgfaaJ07
import Derived.Test.YtcegoenlajkgfaaJ01
section

/- The bytes of a subtable of layer 15 as its law writes them: swashlaw15.Write. Conditions: a machine's plan and lookups in memory; sizes. -/
namespace Go.Proofs.Ytcegoenlajkgfaa
open Go.RowKit Go.Lib

/-- A lookup of glyphs from 0 on, in a row. -/
def vals16 (l : List Nat) : List UInt8 := l.flatMap fun x => beN 2 x
def sub8 (l : List Nat) : List UInt8 := beN 2 8 ++ beN 2 0 ++ beN 2 l.length ++ vals16 l
theorem vals16_length (l : List Nat) : (vals16 l).length = 2 * l.length := by
  induction l with
  | nil => rfl
  | cons x l ih => simp only [vals16, List.flatMap_cons, List.length_append, beN_length, List.length_cons] at *; omega
theorem sub8_length (l : List Nat) : (sub8 l).length = 6 + 2 * l.length := by
  simp only [sub8, List.length_append, beN_length, vals16_length]
theorem vals16_snoc (l : List Nat) (q : Nat) (h : q < l.length) : vals16 (l.take (q + 1)) = vals16 (l.take q) ++ beN 2 (l.getD q 0) := by
  unfold vals16
  rw [List.take_add_one, List.flatMap_append, List.getElem?_eq_getElem h, List.getD_eq_getElem?_getD, List.getElem?_eq_getElem h]
  simp
end Go.Proofs.Ytcegoenlajkgfaa
end
section

/- A lookup's glyphs in the places of a line's: what Run of a subtable of single glyphs does. Conditions: a subtable and a line in memory; sizes. -/
namespace Go.Proofs.Ytcegoenlajkgfaa
open Go.RowKit Go.Lib

/-- What a lookup gives a glyph. -/
abbrev LkF := Int → Nat × Bool
def swap1 (lk : LkF) (p : Int × Int) : Int × Int := if p.1 = 65535 then p else if (lk p.1).2 = true then (((lk p.1).1 : Nat), p.2) else p
def swapL (lk : LkF) (l : List (Int × Int)) : List (Int × Int) := l.map (swap1 lk)
theorem swapL_length (lk : LkF) (l : List (Int × Int)) : (swapL lk l).length = l.length := by simp [swapL]
def swapP (lk : LkF) (l : List (Int × Int)) (j : Nat) : List (Int × Int) := (l.take j).map (swap1 lk) ++ l.drop j
theorem swapP_zero (lk : LkF) (l : List (Int × Int)) : swapP lk l 0 = l := by simp [swapP]
theorem swapP_all (lk : LkF) (l : List (Int × Int)) (j : Nat) (h : l.length ≤ j) : swapP lk l j = swapL lk l := by
  unfold swapP swapL
  rw [List.take_of_length_le h, List.drop_of_length_le h, List.append_nil]
theorem swapP_get (lk : LkF) (l : List (Int × Int)) (j : Nat) (p : Int × Int) (h : l[j]? = some p) : (swapP lk l j)[j]? = some p := by
  have hlt := (List.getElem?_eq_some_iff.1 h).1
  unfold swapP
  rw [List.getElem?_append_right (by simp; omega)]
  simp only [List.length_map, List.length_take]
  rw [Nat.min_eq_left (by omega), Nat.sub_self, List.getElem?_drop, Nat.add_zero, h]
theorem swapP_set (lk : LkF) (l : List (Int × Int)) (j : Nat) (p : Int × Int) (h : l[j]? = some p) : (swapP lk l j).set j (swap1 lk p) = swapP lk l (j + 1) := by
  have hlt := (List.getElem?_eq_some_iff.1 h).1
  have hlen : ((l.take j).map (swap1 lk)).length = j := by simp; omega
  unfold swapP
  rw [List.set_append_right _ _ (by rw [hlen]; exact Nat.le_refl _), hlen, Nat.sub_self, List.drop_eq_getElem_cons hlt, List.set_cons_zero, List.take_add_one, h]
  simp
theorem swapP_same (lk : LkF) (l : List (Int × Int)) (j : Nat) (p : Int × Int) (h : l[j]? = some p) (h1 : swap1 lk p = p) : swapP lk l (j + 1) = swapP lk l j := by
  rw [← swapP_set lk l j p h, h1]
  have := swapP_get lk l j p h
  obtain ⟨hl, e⟩ := List.getElem?_eq_some_iff.1 this
  rw [← e]
  exact List.set_getElem_self hl
/-- What a change of a line's glyphs may touch: the line's row. -/
def ownS (bk : Option Nat) (k t : Nat) : Prop := t = 57 ∧ bk = some k
theorem ownBlockS (a : Option Addr) (n c : Nat) : (Value.slice a n c).ownBlock = a.map (·.block) := by cases a <;> rfl
theorem GStep.keepS {bk : Option Nat} {B g : Nat} {a : Option Addr} {c : Nat} {l l' : List (Int × Int)} {w w' : World} (h : GStep B g a a w w') (hg : GIs B g a c l w) (hg' : GIs B g a c l' w') (hl : l'.length = l.length) (hbk : a.map (·.block) = bk) (hz : w.heap.size ≤ w'.heap.size) : KeepC B (ownS bk) w w' := by
  refine ⟨h.below, hz, fun k cs t fz hk ho => ?_⟩
  by_cases e2 : k = g
  · subst e2
    rw [hg'.hd, hg.hd, hl]
  · refine h.keep k (Array.getElem?_eq_some_iff.1 hk).1 e2 ?_
    by_cases e : t = 57
    · intro h2; exact ho ⟨e, hbk.symm.trans h2.symm⟩
    · rw [← ownBlockS a l.length c]; exact own_neE hg.row hk e
theorem gset_keep (B g : Nat) (a : Option Addr) (c : Nat) (l : List (Int × Int)) (w : World) (h : GIs B g a c l w) (z x : Int) :
    Calls Try.prog 65 #[.pointer (some ⟨g, 0, none⟩), .int .i64 z, .int .i64 x] w fun e w' => e = .returned (.bool (inG l z)) ∧ GIs B g a c (setG l z x) w' ∧ KeepC B (ownS (a.map (·.block))) w w' := by
  refine (gset_any B g a c l w h z x).mono ?_
  rintro e w' ⟨he, h1, h2, h3⟩
  exact ⟨he, h1, h2.keepS h h1 (by split <;> simp) rfl (by omega)⟩
theorem GIs.rowIn {B g c : Nat} {a : Option Addr} {l : List (Int × Int)} {w : World} (h : GIs B g a c l w) : ∀ k, a.map (·.block) = some k → B ≤ k ∧ k < w.heap.size := by
  intro k hk
  rcases h.row.2 with ⟨hv, _⟩ | ⟨b, cap, cur, hv, hg, hh, r⟩
  · injection hv with hv _ _
    rw [hv] at hk
    cases hk
  · injection hv with hv _ _
    rw [hv] at hk
    injection hk with hk
    simp only at hk
    subst hk
    exact ⟨hg, (Array.getElem?_eq_some_iff.1 hh).1⟩
theorem ownS_no {bk : Option Nat} {t : Nat} (ht : t ≠ 57) : ∀ k, ¬ ownS bk k t := fun _ h => ht h.1
/-- A lookup in memory, within what keeps all but a line's row. -/
theorem TabIs.keepS {B B0 g fmt : Nat} {bk : Option Nat} {ps : List PartL} {ns : List Nat} {w w' : World} (h : TabIs B g fmt ps ns w) (hk : KeepC B0 (ownS bk) w w') : TabIs B g fmt ps ns w' :=
  h.keepC hk (ownS_no (by decide)) (ownS_no (by decide)) (ownS_no (by decide) _)
/-- A subtable of single glyphs in memory. -/
structure SwIs (Bt gx : Nat) (bs : List UInt8) (rs : List RP) (w : World) : Prop where
  is : ∃ gt fmt, w.heap[gx]? = some (.cells #[.pointer (some ⟨gt, 0, none⟩)] 127 (0, 0)) ∧ TabIs Bt gt fmt (tabR bs rs).1 (tabR bs rs).2 w
theorem SwIs.below {Bt gx : Nat} {bs : List UInt8} {rs : List RP} {w w' : World} (h : SwIs Bt gx bs rs w) (hb : Below w.heap.size w w') : SwIs Bt gx bs rs w' := by
  obtain ⟨gt, fmt, h1, h2⟩ := h.is
  exact ⟨gt, fmt, (hb.block _ (Array.getElem?_eq_some_iff.1 h1).1).trans h1, h2.below hb⟩
theorem SwIs.keep {Bt B0 gx : Nat} {bk : Option Nat} {bs : List UInt8} {rs : List RP} {w w' : World} (h : SwIs Bt gx bs rs w) (hk : KeepC B0 (ownS bk) w w') : SwIs Bt gx bs rs w' := by
  obtain ⟨gt, fmt, h1, h2⟩ := h.is
  exact ⟨gt, fmt, (hk.kept _ _ _ _ h1 (ownS_no (by decide) _)).trans h1, h2.keepS hk⟩
def lkR (bs : List UInt8) (rs : List RP) : LkF := fun id => getL (tabR bs rs).1 (tabR bs rs).2 id
theorem owns_keepS {w w' : World} {B base n : Nat} {bk : Option Nat} {v : Value} {xs : List Value} (ho : w.ownsRow base 57 2 v n xs) (hk : KeepC B (ownS bk) w w') (hne : ∀ k, bk = some k → k < base) : w'.ownsRow base 57 2 v n xs := by
  refine ⟨ho.1, ?_⟩
  rcases ho.2 with q | ⟨q, cap, cur, hv, hq, hh, r⟩
  · exact .inl q
  · exact .inr ⟨q, cap, cur, hv, hq, by rw [hk.kept q _ _ _ hh (fun h => by have := hne q h.2; omega)]; exact hh, r⟩
set_option maxRecDepth 100000 in
set_option maxHeartbeats 3200000 in
theorem swrun_any (Bt gx : Nat) (bs : List UInt8) (rs : List RP) (B gl : Nat) (a : Option Addr) (c : Nat) (l : List (Int × Int)) (w : World) (hT : SwIs Bt gx bs rs w) (hf : FitL (tabR bs rs).1 (tabR bs rs).2) (hG : GIs B gl a c l w) (hB : B ≤ w.heap.size) (hids : ∀ p ∈ l, -9223372036854775808 ≤ p.1 ∧ p.1 ≤ 9223372036854775807) (hl : l.length ≤ 1000000) :
    Calls Try.prog 34 #[.pointer (some ⟨gx, 0, none⟩), .pointer (some ⟨gl, 0, none⟩)] w fun e w' => e = .returned (.int .i64 0) ∧ GIs B gl a c (swapL (lkR bs rs) l) w' ∧ KeepC B (ownS (a.map (·.block))) w w' := by
  have hAC := allocC
  have hAF := allocF
  obtain ⟨gt, fmt, hx, hT2⟩ := hT.is
  obtain ⟨n, hn⟩ : ∃ n, n = l.length := ⟨_, rfl⟩
  have hgl := gglyphs_any B gl a c l w hG hl
  rw [← hn] at hgl
  have HGL := Lib.hid hgl
  have HN := Lib.hid hn
  have HX := Lib.hid hx
  have HT2 := Lib.hid hT2
  have HRI := Lib.hid (fun k hk => (hG.rowIn k hk).2)
  have HG := Lib.hid hG
  have HF := Lib.hid hf
  have HID := Lib.hid hids
  rw [← hn] at hl
  clear hT hx hT2 hG hn hgl hf hids
  go_enter Try.func34, Try.ntmps34
  go_wp2_with (go_at_call 21; (with_reducible refine HGL.out.mono ?_); rintro e w0 ⟨a8, c8, rfl, ho, _, _, _, hb0⟩; have HO0 := Lib.hid ho; have HB0 := Lib.hid hb0; clear ho hb0)
  have hz0 := HB0.out.size
  go_loopw [12] (fun i wr => ∃ j : Nat, j ≤ n ∧ i = .int .i64 (j : Nat) ∧ GIs B gl a c (swapP (lkR bs rs) l j) wr ∧ KeepC B (ownS (a.map (·.block))) w wr ∧ wr.ownsRow w.heap.size 57 2 (.slice a8 n c8) n (gv l)) (fun i _ => n - (RowKit.intOf i).toNat)
  case atStart => exact ⟨0, Nat.zero_le _, rfl, by rw [swapP_zero]; exact HG.out.below HB0.out, KeepC.of HB0.out hB, HO0.out⟩
  case round =>
    obtain ⟨j, hj, rfl, hg, hk, ho⟩ := hrel
    rename World => wr
    have HGR := Lib.hid hg
    have HK := Lib.hid hk
    have HO := Lib.hid ho
    have hzr := hk.size
    clear hg hk ho
    by_cases hlt : j < n
    · obtain ⟨gi, p, rfl, hgi, hgz, hp, hc1, hc2, _, _, _, _⟩ := grow_at HO.out HN.out.symm hlt
      have hpp := swapP_get (lkR bs rs) l j p hp
      have hidp := HID.out p (List.mem_of_getElem? hp)
      have HPP := Lib.hid hpp
      have HP := Lib.hid hp
      obtain ⟨p1, p2⟩ := p
      simp only at hidp hc1 hc2
      clear hpp hp
      by_cases h5 : p1 = 65535
      · have d1 : (p1 == 65535) = true := by simpa using h5
        have hsame := swapP_same (lkR bs rs) l j (p1, p2) HP.out (by unfold swap1; rw [if_pos h5])
        have HS := Lib.hid hsame
        clear hsame h5
        go_wp2_with fail
        go_roundw
        case rel => exact ⟨j + 1, hlt, by go_num, by rw [HS.out]; exact HGR.out.below (balloc (brefl _) _), HK.out.trans (KeepC.of (balloc (brefl _) _) (Nat.le_trans hB hzr)), HO.out.alloc _⟩
        case measure => simp only [RowKit.intOf]; omega
      · have d1 : (p1 == 65535) = false := by simpa using h5
        have HGT := Lib.hid (fun W (hW : TabIs Bt gt fmt (tabR bs rs).1 (tabR bs rs).2 W) => show Calls Try.prog 64 #[.pointer (some ⟨gt, 0, none⟩), .int .i64 p1] W fun e w' => e = .returned (.tuple #[.int .i64 ((lkR bs rs p1).1 : Nat), .bool (lkR bs rs p1).2]) ∧ Below W.heap.size W w' from get_fn Bt gt fmt _ _ p1 W hW HF.out hidp)
        have HS := Lib.hid (show (lkR bs rs p1).2 = true → setG (swapP (lkR bs rs) l j) (j : Nat) ((lkR bs rs p1).1 : Nat) = swapP (lkR bs rs) l (j + 1) from fun h => by
          rw [setG_of HPP.out, ← swapP_set (lkR bs rs) l j (p1, p2) HP.out]
          unfold swap1
          rw [if_neg h5, if_pos h])
        have HNS := Lib.hid (show (lkR bs rs p1).2 = false → swapP (lkR bs rs) l (j + 1) = swapP (lkR bs rs) l j from fun h => swapP_same (lkR bs rs) l j (p1, p2) HP.out (by unfold swap1; rw [if_neg h5, if_neg (by rw [h]; decide)]))
        generalize lkR bs rs p1 = q at *
        obtain ⟨q1, q2⟩ := q
        simp only at HGT HS HNS
        clear h5
        go_wp2_with fail
        obtain ⟨V, hV⟩ : ∃ V, V = wr.alloc (Obj.cells #[.int .i64 p1, .int .i64 p2] 57) := ⟨_, rfl⟩
        have hbV : Below wr.heap.size wr V := by rw [hV]; exact balloc (brefl _) _
        have x6 : V.heap[wr.heap.size]? = some (.cells #[.int .i64 p1, .int .i64 p2] 57 (0, 0)) := by rw [hV]; exact (heap_push _ _ _).trans (if_pos rfl)
        have hxV := (hbV.block _ (Array.getElem?_eq_some_iff.1 (HK.out.kept _ _ _ _ HX.out (ownS_no (by decide) _) |>.trans HX.out)).1).trans (HK.out.kept _ _ _ _ HX.out (ownS_no (by decide) _) |>.trans HX.out)
        rw [← hV]
        have q6 := fun o => cell_of_heap x6 o
        have l6 := (Array.getElem?_eq_some_iff.1 x6).1
        have qx := cell_of_heap hxV 0
        have lx := (Array.getElem?_eq_some_iff.1 hxV).1
        simp only [List.getElem?_toArray, List.getElem?_cons_zero] at qx
        have HGV := Lib.hid (HGR.out.below hbV)
        have HKV := Lib.hid (HK.out.trans (KeepC.of hbV (Nat.le_trans hB hzr)))
        have HTV := Lib.hid (HT2.out.keepS HKV.out)
        have HOV := Lib.hid (owns_below HO.out hbV (Nat.le_refl _))
        have HGT2 := Lib.hid (fun W (hW : Below V.heap.size V W) => HGT.out W (HTV.out.below hW))
        clear hV hbV x6 hxV hc1 hc2
        refine wp_region_tree (.step 0 (.step 1 (.step 2 (.step 3 (.step 4 (.step 5 (.step 6 (.step 7 (.step 8 (.step 9 (.step 10 (.step 11 .nil)))))))))))) (by kernel_rfl) (by kernel_rfl) (by kernel_rfl) (by kernel_rfl) (by intro _ _ d_ _ _ h_; cases d_ <;> first | exact h_ | (dsimp +zetaDelta only at h_ ⊢; exact h_)) (fun w' => ∃ p : Wld V [], w' = p.val) (wld_start _ _) ?_
        have hG_ := @wldC V
        (refine tree_quiet (by simp only [List.getElem?_toArray, List.getElem?_cons_succ, List.getElem?_cons_zero]; rfl) (by rfl) (by rfl) (fun K_ hK_ => ?_); go_big_quiet_op; refine hK_ _ ?_; clear hK_ K_)
        (refine tree_quiet (by simp only [List.getElem?_toArray, List.getElem?_cons_succ, List.getElem?_cons_zero]; rfl) (by rfl) (by rfl) (fun K_ hK_ => ?_); go_big_quiet_op; refine hK_ _ ?_; clear hK_ K_)
        (refine tree_quiet (by simp only [List.getElem?_toArray, List.getElem?_cons_succ, List.getElem?_cons_zero]; rfl) (by rfl) (by rfl) (fun K_ hK_ => ?_); go_big_quiet_op; refine hK_ _ ?_; clear hK_ K_)
        (refine tree_quiet (by simp only [List.getElem?_toArray, List.getElem?_cons_succ, List.getElem?_cons_zero]; rfl) (by rfl) (by rfl) (fun K_ hK_ => ?_); go_big_quiet_op; refine hK_ _ ?_; clear hK_ K_)
        (refine tree_quiet (by simp only [List.getElem?_toArray, List.getElem?_cons_succ, List.getElem?_cons_zero]; rfl) (by rfl) (by rfl) (fun K_ hK_ => ?_); go_big_quiet_op; refine hK_ _ ?_; clear hK_ K_)
        (refine tree_quiet (by simp only [List.getElem?_toArray, List.getElem?_cons_succ, List.getElem?_cons_zero]; rfl) (by rfl) (by rfl) (fun K_ hK_ => ?_); go_big_quiet_op; refine hK_ _ ?_; clear hK_ K_)
        (refine tree_run (by simp only [List.getElem?_toArray, List.getElem?_cons_succ, List.getElem?_cons_zero]; rfl) (by rfl) (by rfl) (fun K_ hK_ => ?_); have HK_ := Lib.hid hK_; clear hK_; go_wp2_with ((go_at_call 64; (with_reducible refine (HGT2.out _ (by exact blw)).mono ?_); rintro e w2 ⟨rfl, hb2⟩)); refine HK_.out _ _ (wld_ofA) ?_; clear HK_)
        (refine tree_quiet (by simp only [List.getElem?_toArray, List.getElem?_cons_succ, List.getElem?_cons_zero]; rfl) (by rfl) (by rfl) (fun K_ hK_ => ?_); go_big_quiet_op; refine hK_ _ ?_; clear hK_ K_)
        (refine tree_quiet (by simp only [List.getElem?_toArray, List.getElem?_cons_succ, List.getElem?_cons_zero]; rfl) (by rfl) (by rfl) (fun K_ hK_ => ?_); go_big_quiet_op; refine hK_ _ ?_; clear hK_ K_)
        (refine tree_quiet (by simp only [List.getElem?_toArray, List.getElem?_cons_succ, List.getElem?_cons_zero]; rfl) (by rfl) (by rfl) (fun K_ hK_ => ?_); go_big_quiet_op; refine hK_ _ ?_; clear hK_ K_)
        (refine tree_quiet (by simp only [List.getElem?_toArray, List.getElem?_cons_succ, List.getElem?_cons_zero]; rfl) (by rfl) (by rfl) (fun K_ hK_ => ?_); go_big_quiet_op; refine hK_ _ ?_; clear hK_ K_)
        (refine tree_quiet (by simp only [List.getElem?_toArray, List.getElem?_cons_succ, List.getElem?_cons_zero]; rfl) (by rfl) (by rfl) (fun K_ hK_ => ?_); go_big_quiet_op; refine hK_ _ ?_; clear hK_ K_)
        refine tree_nil ?_
        clear hG_
        have hb2 : Below V.heap.size V w2 := (by exact blw)
        have HGW := Lib.hid (HGV.out.below hb2)
        have HOW := Lib.hid (owns_below HOV.out hb2 (Nat.le_refl _))
        have HKW := Lib.hid (HKV.out.trans (KeepC.of hb2 (Nat.le_trans hB HKV.out.size)))
        clear q6 qx
        cases q2 with
        | true =>
          have hst := gset_keep B gl a c _ w2 HGW.out (j : Nat) (q1 : Nat)
          rw [HS.out rfl] at hst
          have HST := Lib.hid hst
          clear hst HS
          go_wp2_with (go_at_call 65; (with_reducible refine HST.out.mono ?_); rintro e w3 ⟨rfl, hg3, hk3⟩; have HG3 := Lib.hid hg3; have HO3 := Lib.hid (owns_keepS HOW.out hk3 HRI.out); have HK3 := Lib.hid (HKW.out.trans hk3); clear hg3 hk3)
          go_roundw
          case rel => exact ⟨j + 1, hlt, by go_num, HG3.out, HK3.out, HO3.out⟩
          case measure => simp only [RowKit.intOf]; omega
        | false =>
          have hgw := HGW.out
          rw [← HNS.out rfl] at hgw
          have HGW := Lib.hid hgw
          clear hgw HNS
          go_wp2_with fail
          go_roundw
          case rel => exact ⟨j + 1, hlt, by go_num, HGW.out, HKW.out, HOW.out⟩
          case measure => simp only [RowKit.intOf]; omega
    · obtain rfl : n = j := by omega
      go_wp2_with fail
      go_ret
      exact ⟨rfl, by have := HGR.out; rwa [swapP_all _ _ _ (by rw [← HN.out]; exact Nat.le_refl _)] at this, HK.out⟩
end Go.Proofs.Ytcegoenlajkgfaa
end
section

/- Read of a subtable of single glyphs, and what its law asks first. Conditions: bytes as the slice says. -/
namespace Go.Proofs.Ytcegoenlajkgfaa
open Go.RowKit Go.Lib

def SwReadIs (bs : List UInt8) (zg : Int) (w : World) (e : Ending) (w' : World) : Prop :=
  (((zg < 1 ∨ 65535 < zg) ∧ e = .returned (.tuple #[.pointer none, .int .i64 1])) ∨
   (1 ≤ zg ∧ zg ≤ 65535 ∧ (∀ rs, ¬ LkOk bs zg.toNat 2 rs) ∧ e = .returned (.tuple #[.pointer none, .int .i64 2])) ∨
   (1 ≤ zg ∧ zg ≤ 65535 ∧ ∃ rs gx, LkOk bs zg.toNat 2 rs ∧ e = .returned (.tuple #[.pointer (some ⟨gx, 0, none⟩), .int .i64 0]) ∧ SwIs w.heap.size gx bs rs w')) ∧ Below w.heap.size w w'
set_option maxRecDepth 100000 in
set_option maxHeartbeats 1600000 in
theorem swread_any (a : Option Addr) (n c : Nat) (bs : List UInt8) (zg : Int) (w : World) (h : Has w a (bytesV bs)) (hl : bs.length = n) (hn : n ≤ c) (hc : c ≤ maxLen) (hzg : -9223372036854775808 ≤ zg ∧ zg ≤ 9223372036854775807) :
    Calls Try.prog 30 #[.slice a n c, .int .i64 zg] w (SwReadIs bs zg w) := by
  have hAC := allocC
  have hAF := allocF
  have HR := Lib.hid (lread_any a n c bs zg 2 w h hl hn hc hzg (by decide))
  clear h hl hAC hAF
  unfold SwReadIs
  go_enter Try.func30, Try.ntmps30
  go_wp2_with fail
  refine HR.out.mono ?_
  rintro e w1 ⟨(⟨hb, rfl⟩ | ⟨hb, hno, rfl⟩ | ⟨hb, rs, g, hok, rfl, hT⟩), hb1⟩
  · go_wp2_with fail
    go_ret2
    exact ⟨.inl ⟨by unfold badLk at hb; omega, rfl⟩, hb1⟩
  · go_wp2_with fail
    go_ret2
    exact ⟨.inr (.inl ⟨by unfold badLk at hb; omega, by unfold badLk at hb; omega, hno, rfl⟩), hb1⟩
  · have HT := Lib.hid hT
    have HOK := Lib.hid hok
    clear hT hok
    go_wp2_with fail
    go_ret2
    exact ⟨.inr (.inr ⟨by unfold badLk at hb; omega, by unfold badLk at hb; omega, rs, w1.heap.size, HOK.out, rfl, ⟨g, _, by rw [heap_push]; exact if_pos rfl, HT.out.below (balloc (brefl _) _)⟩⟩), balloc hb1 _⟩
theorem swread_some (a : Option Addr) (n c : Nat) (bs : List UInt8) (glyphs : Nat) (zg : Int) (hzg : zg = (glyphs : Nat)) (rs : List RP) (w : World) (h : Has w a (bytesV bs)) (hl : bs.length = n) (hn : n ≤ c) (hc : c ≤ maxLen) (hg1 : 1 ≤ glyphs) (hg2 : glyphs ≤ 65535) (hok : LkOk bs glyphs 2 rs) :
    Calls Try.prog 30 #[.slice a n c, .int .i64 zg] w fun e w' => ∃ gx, e = .returned (.tuple #[.pointer (some ⟨gx, 0, none⟩), .int .i64 0]) ∧ SwIs w.heap.size gx bs rs w' ∧ Below w.heap.size w w' := by
  subst hzg
  refine (swread_any a n c bs _ w h hl hn hc (by omega)).mono ?_
  rintro e w' ⟨(⟨hb, _⟩ | ⟨_, _, hno, _⟩ | ⟨_, _, rs', gx, hok', he, hT⟩), hb1⟩
  · omega
  · exact absurd hok (by have := hno rs; rwa [Int.toNat_natCast] at this)
  · rw [Int.toNat_natCast] at hok'
    obtain rfl := hok.det hok'
    exact ⟨gx, he, hT, hb1⟩
/-- The document's Get of it is the lookup's. -/
theorem lkR_ref {bs : List UInt8} {glyphs : Nat} {rs : List RP} (h : LkOk bs glyphs 2 rs) (hg : glyphs ≤ 65535) (id : Int) : refG bs rs id = lkR bs rs id := by
  have := (refG_tab bs rs h.ok (fun r hr => (h.rows.each hg (.inl rfl)).2 r hr) id rs.length (Nat.le_refl _)).1
  rw [List.take_length] at this
  exact this.symm
end Go.Proofs.Ytcegoenlajkgfaa
end
section

/- A lookup of glyphs from 0 on, in a row: what it is, and what it gives. Conditions: numbers of two bytes; no more than 65535 glyphs. -/
namespace Go.Proofs.Ytcegoenlajkgfaa
open Go.RowKit Go.Lib

theorem vals16_num : ∀ (l : List Nat) (k : Nat), (∀ x ∈ l, x ≤ 65535) → k < l.length → num (vals16 l) (2 * k) 2 = l.getD k 0
  | [], k, _, h => by simp at h
  | x :: l, 0, hx, _ => by
    have := numB2 x (vals16 l) (hx x (by simp))
    simpa [vals16] using this
  | x :: l, k + 1, hx, h => by
    have e : vals16 (x :: l) = beN 2 x ++ vals16 l := rfl
    rw [e, numR (beN 2 x) (vals16 l) (2 * (k + 1)) (2 * k) 2 (by rw [beN_length]; omega), vals16_num l k (fun y hy => hx y (by simp [hy])) (by simpa using h)]
    simp
theorem sub8_split (l : List Nat) : sub8 l = beN 2 8 ++ (beN 2 0 ++ (beN 2 l.length ++ vals16 l)) := by simp [sub8]
theorem sub8_nums (l : List Nat) (hl : l.length ≤ 65535) : num (sub8 l) 0 2 = 8 ∧ num (sub8 l) 2 2 = 0 ∧ num (sub8 l) 4 2 = l.length := by
  rw [sub8_split]
  refine ⟨numB2 8 _ (by decide), ?_, ?_⟩
  · rw [numR (beN 2 8) _ 2 0 2 (by rw [beN_length]), numB2 0 _ (by decide)]
  · rw [numR (beN 2 8) _ 4 2 2 (by rw [beN_length]), numR (beN 2 0) _ 2 0 2 (by rw [beN_length]), numB2 l.length _ hl]
theorem sub8_val (l : List Nat) (hx : ∀ x ∈ l, x ≤ 65535) (k : Nat) (hk : k < l.length) : num (sub8 l) (6 + 2 * k) 2 = l.getD k 0 := by
  rw [sub8_split, numR (beN 2 8) _ (6 + 2 * k) (4 + 2 * k) 2 (by rw [beN_length]; omega), numR (beN 2 0) _ (4 + 2 * k) (2 + 2 * k) 2 (by rw [beN_length]; omega), numR (beN 2 l.length) _ (2 + 2 * k) (2 * k) 2 (by rw [beN_length]), vals16_num l k hx hk]
/-- Its one part, if there is a glyph. -/
def row8 (l : List Nat) : List RP := rowsT 0 l.length 6 2
theorem sub8_ok (l : List Nat) (hl : l.length ≤ 65535) (glyphs : Nat) : LkOk (sub8 l) glyphs 2 (row8 l) := by
  obtain ⟨h1, h2, h3⟩ := sub8_nums l hl
  have := LkRows.eight (bs := sub8 l) (glyphs := glyphs) (size := 2) (by rw [sub8_length]; omega) h1 (by rw [h2, h3]; omega)
  rw [h2, h3] at this
  exact ⟨this, (ok_rowsT _ _ _ _ _ (by rw [sub8_length]; omega)).2 (by rw [sub8_length]; omega)⟩
/-- What it gives. -/
def give8 (l : List Nat) (id : Int) : Nat × Bool := if 0 ≤ id ∧ id < (l.length : Int) then (l.getD id.toNat 0, true) else (0, false)
theorem lk_give8 (l : List Nat) (hl : l.length ≤ 65535) (hx : ∀ x ∈ l, x ≤ 65535) (id : Int) : lkR (sub8 l) (row8 l) id = give8 l id := by
  rw [← lkR_ref (sub8_ok l hl 40) (by decide)]
  unfold refG row8 rowsT give8
  by_cases h0 : l.length = 0
  · rw [if_pos h0, if_neg (by omega)]
    rfl
  · rw [if_neg h0]
    by_cases h : 0 ≤ id ∧ id < (l.length : Int)
    · rw [if_pos h]
      have hin : inR id ⟨0, 0 + l.length - 1, 6, 2, true⟩ = true := by
        unfold inR
        simp
        omega
      rw [List.find?_cons_of_pos hin]
      obtain ⟨k, rfl⟩ : ∃ k : Nat, id = k := ⟨id.toNat, by omega⟩
      have := sub8_val l hx k (by omega)
      show (num (sub8 l) (6 + (if true = true then 2 else 0) * ((k : Int) - ((0 : Nat) : Int)).toNat) 2, true) = (l.getD (k : Int).toNat 0, true)
      rw [if_pos rfl, show ((k : Int) - ((0 : Nat) : Int)).toNat = k by omega, Int.toNat_natCast, this]
    · rw [if_neg h]
      have hin : ¬ inR id ⟨0, 0 + l.length - 1, 6, 2, true⟩ = true := by
        unfold inR
        simp
        omega
      rw [List.find?_cons_of_neg hin]
      rfl
end Go.Proofs.Ytcegoenlajkgfaa
end
section

/- What law 16 asks first, and how much it looks at. No condition. -/
namespace Go.Proofs.Ytcegoenlajkgfaa
open Go.RowKit Go.Lib

end Go.Proofs.Ytcegoenlajkgfaa
end
section

/- swap.Take, and the function within law 16's SwapTakes: a subtable of a View. What a line is behind a Run along another line. Conditions: as many bytes as the slice says. -/
namespace Go.Proofs.Ytcegoenlajkgfaa
open Go.RowKit Go.Lib

theorem GIs.keepS2 {B g c B0 : Nat} {a : Option Addr} {l : List (Int × Int)} {bk : Option Nat} {w w' : World} (h : GIs B g a c l w) (hk : KeepC B0 (ownS bk) w w') (hne : ∀ k, a.map (·.block) = some k → bk ≠ some k) : GIs B g a c l w' := by
  refine ⟨(hk.kept _ _ _ _ h.hd (by rintro ⟨h, _⟩; exact absurd h (by decide))).trans h.hd, h.row.1, ?_⟩
  rcases h.row.2 with h2 | ⟨b, cap, cur, hv, hg, hh, r⟩
  · exact .inl h2
  · refine .inr ⟨b, cap, cur, hv, hg, ?_, r⟩
    have ha : a.map (·.block) = some b := by
      injection hv with hv _ _
      rw [hv]; rfl
    rw [hk.kept b _ _ _ hh (by
      rintro ⟨_, h⟩
      exact hne b ha h)]
    exact hh
theorem SwIs.monoS {B B' gx : Nat} {bs : List UInt8} {rs : List RP} {w : World} (h : SwIs B gx bs rs w) (hb : B' ≤ B) : SwIs B' gx bs rs w := by
  obtain ⟨gt, fmt, h1, h2⟩ := h.is
  exact ⟨gt, fmt, h1, h2.monoM hb⟩
end Go.Proofs.Ytcegoenlajkgfaa
end
