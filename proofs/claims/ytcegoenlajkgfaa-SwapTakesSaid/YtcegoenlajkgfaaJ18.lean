/- Joined from: XRun XRead XSpk XTake. -/
import Derived.Test.YtcegoenlajkgfaaJ17
import Derived.Test.YtcegoenlajkgfaaJ08
import Derived.Test.YtcegoenlajkgfaaJ16
import Derived.Test.YtcegoenlajkgfaaJ01
section

/- A lookup's glyphs in the places of a line's: what Run of a subtable of single glyphs does. Conditions: a subtable and a line in memory; sizes. -/
namespace Go.Proofs.Ytcegoenlajkgfaa
open Go.RowKit Go.Lib

/-- What a lookup gives a glyph. -/
abbrev LkF := Int → Nat × Bool
def swap1 (lk : LkF) (p : Int × Int) : Int × Int := if p.1 = 65535 then p else if (lk p.1).2 = true then (((lk p.1).1 : Nat), p.2) else p
def swapL (lk : LkF) (l : List (Int × Int)) : List (Int × Int) := l.map (swap1 lk)
theorem swapL_length (lk : LkF) (l : List (Int × Int)) : (swapL lk l).length = l.length := by simp [swapL]
def swapP (lk : LkF) (l : List (Int × Int)) (j : Nat) : List (Int × Int) := (l.take j).map (swap1 lk) ++ l.drop j
theorem swapP_zero (lk : LkF) (l : List (Int × Int)) : swapP lk l 0 = l := by simp [swapP]
theorem swapP_all (lk : LkF) (l : List (Int × Int)) (j : Nat) (h : l.length ≤ j) : swapP lk l j = swapL lk l := by
  unfold swapP swapL
  rw [List.take_of_length_le h, List.drop_of_length_le h, List.append_nil]
theorem swapP_length (lk : LkF) (l : List (Int × Int)) (j : Nat) : (swapP lk l j).length = l.length := by
  simp [swapP]
  omega
theorem swapP_get (lk : LkF) (l : List (Int × Int)) (j : Nat) (p : Int × Int) (h : l[j]? = some p) : (swapP lk l j)[j]? = some p := by
  have hlt := (List.getElem?_eq_some_iff.1 h).1
  unfold swapP
  rw [List.getElem?_append_right (by simp; omega)]
  simp only [List.length_map, List.length_take]
  rw [Nat.min_eq_left (by omega), Nat.sub_self, List.getElem?_drop, Nat.add_zero, h]
theorem swapP_set (lk : LkF) (l : List (Int × Int)) (j : Nat) (p : Int × Int) (h : l[j]? = some p) : (swapP lk l j).set j (swap1 lk p) = swapP lk l (j + 1) := by
  have hlt := (List.getElem?_eq_some_iff.1 h).1
  have hlen : ((l.take j).map (swap1 lk)).length = j := by simp; omega
  unfold swapP
  rw [List.set_append_right _ _ (by rw [hlen]; exact Nat.le_refl _), hlen, Nat.sub_self, List.drop_eq_getElem_cons hlt, List.set_cons_zero, List.take_add_one, h]
  simp
theorem swapP_same (lk : LkF) (l : List (Int × Int)) (j : Nat) (p : Int × Int) (h : l[j]? = some p) (h1 : swap1 lk p = p) : swapP lk l (j + 1) = swapP lk l j := by
  rw [← swapP_set lk l j p h, h1]
  have := swapP_get lk l j p h
  obtain ⟨hl, e⟩ := List.getElem?_eq_some_iff.1 this
  rw [← e]
  exact List.set_getElem_self hl
/-- What a change of a line's glyphs may touch: the line's row. -/
def ownS (bk : Option Nat) (k t : Nat) : Prop := t = 57 ∧ bk = some k
theorem ownBlockS (a : Option Addr) (n c : Nat) : (Value.slice a n c).ownBlock = a.map (·.block) := by cases a <;> rfl
theorem GStep.keepS {bk : Option Nat} {B g : Nat} {a : Option Addr} {c : Nat} {l l' : List (Int × Int)} {w w' : World} (h : GStep B g a a w w') (hg : GIs B g a c l w) (hg' : GIs B g a c l' w') (hl : l'.length = l.length) (hbk : a.map (·.block) = bk) (hz : w.heap.size ≤ w'.heap.size) : KeepC B (ownS bk) w w' := by
  refine ⟨h.below, hz, fun k cs t fz hk ho => ?_⟩
  by_cases e2 : k = g
  · subst e2
    rw [hg'.hd, hg.hd, hl]
  · refine h.keep k (Array.getElem?_eq_some_iff.1 hk).1 e2 ?_
    by_cases e : t = 57
    · intro h2; exact ho ⟨e, hbk.symm.trans h2.symm⟩
    · rw [← ownBlockS a l.length c]; exact own_neE hg.row hk e
theorem gset_keep (B g : Nat) (a : Option Addr) (c : Nat) (l : List (Int × Int)) (w : World) (h : GIs B g a c l w) (z x : Int) :
    Calls Try.prog 65 #[.pointer (some ⟨g, 0, none⟩), .int .i64 z, .int .i64 x] w fun e w' => e = .returned (.bool (inG l z)) ∧ GIs B g a c (setG l z x) w' ∧ KeepC B (ownS (a.map (·.block))) w w' := by
  refine (gset_any B g a c l w h z x).mono ?_
  rintro e w' ⟨he, h1, h2, h3⟩
  exact ⟨he, h1, h2.keepS h h1 (by split <;> simp) rfl (by omega)⟩
theorem GIs.rowIn {B g c : Nat} {a : Option Addr} {l : List (Int × Int)} {w : World} (h : GIs B g a c l w) : ∀ k, a.map (·.block) = some k → B ≤ k ∧ k < w.heap.size := by
  intro k hk
  rcases h.row.2 with ⟨hv, _⟩ | ⟨b, cap, cur, hv, hg, hh, r⟩
  · injection hv with hv _ _
    rw [hv] at hk
    cases hk
  · injection hv with hv _ _
    rw [hv] at hk
    injection hk with hk
    simp only at hk
    subst hk
    exact ⟨hg, (Array.getElem?_eq_some_iff.1 hh).1⟩
theorem ownS_no {bk : Option Nat} {t : Nat} (ht : t ≠ 57) : ∀ k, ¬ ownS bk k t := fun _ h => ht h.1
/-- A lookup in memory, within what keeps all but a line's row. -/
theorem TabIs.keepS {B B0 g fmt : Nat} {bk : Option Nat} {ps : List PartL} {ns : List Nat} {w w' : World} (h : TabIs B g fmt ps ns w) (hk : KeepC B0 (ownS bk) w w') : TabIs B g fmt ps ns w' :=
  h.keepC hk (ownS_no (by decide)) (ownS_no (by decide)) (ownS_no (by decide) _)
/-- A subtable of single glyphs in memory. -/
structure SwIs (Bt gx : Nat) (bs : List UInt8) (rs : List RP) (w : World) : Prop where
  is : ∃ gt fmt, w.heap[gx]? = some (.cells #[.pointer (some ⟨gt, 0, none⟩)] 127 (0, 0)) ∧ TabIs Bt gt fmt (tabR bs rs).1 (tabR bs rs).2 w
theorem SwIs.below {Bt gx : Nat} {bs : List UInt8} {rs : List RP} {w w' : World} (h : SwIs Bt gx bs rs w) (hb : Below w.heap.size w w') : SwIs Bt gx bs rs w' := by
  obtain ⟨gt, fmt, h1, h2⟩ := h.is
  exact ⟨gt, fmt, (hb.block _ (Array.getElem?_eq_some_iff.1 h1).1).trans h1, h2.below hb⟩
theorem SwIs.keep {Bt B0 gx : Nat} {bk : Option Nat} {bs : List UInt8} {rs : List RP} {w w' : World} (h : SwIs Bt gx bs rs w) (hk : KeepC B0 (ownS bk) w w') : SwIs Bt gx bs rs w' := by
  obtain ⟨gt, fmt, h1, h2⟩ := h.is
  exact ⟨gt, fmt, (hk.kept _ _ _ _ h1 (ownS_no (by decide) _)).trans h1, h2.keepS hk⟩
def lkR (bs : List UInt8) (rs : List RP) : LkF := fun id => getL (tabR bs rs).1 (tabR bs rs).2 id
theorem owns_keepS {w w' : World} {B base n : Nat} {bk : Option Nat} {v : Value} {xs : List Value} (ho : w.ownsRow base 57 2 v n xs) (hk : KeepC B (ownS bk) w w') (hne : ∀ k, bk = some k → k < base) : w'.ownsRow base 57 2 v n xs := by
  refine ⟨ho.1, ?_⟩
  rcases ho.2 with q | ⟨q, cap, cur, hv, hq, hh, r⟩
  · exact .inl q
  · exact .inr ⟨q, cap, cur, hv, hq, by rw [hk.kept q _ _ _ hh (fun h => by have := hne q h.2; omega)]; exact hh, r⟩
set_option maxRecDepth 100000 in
set_option maxHeartbeats 3200000 in
theorem swrun_any (Bt gx : Nat) (bs : List UInt8) (rs : List RP) (B gl : Nat) (a : Option Addr) (c : Nat) (l : List (Int × Int)) (w : World) (hT : SwIs Bt gx bs rs w) (hf : FitL (tabR bs rs).1 (tabR bs rs).2) (hG : GIs B gl a c l w) (hB : B ≤ w.heap.size) (hids : ∀ p ∈ l, -9223372036854775808 ≤ p.1 ∧ p.1 ≤ 9223372036854775807) (hl : l.length ≤ 1000000) :
    Calls Try.prog 34 #[.pointer (some ⟨gx, 0, none⟩), .pointer (some ⟨gl, 0, none⟩)] w fun e w' => e = .returned (.int .i64 0) ∧ GIs B gl a c (swapL (lkR bs rs) l) w' ∧ KeepC B (ownS (a.map (·.block))) w w' := by
  have hAC := allocC
  have hAF := allocF
  obtain ⟨gt, fmt, hx, hT2⟩ := hT.is
  obtain ⟨n, hn⟩ : ∃ n, n = l.length := ⟨_, rfl⟩
  have hgl := gglyphs_any B gl a c l w hG hl
  rw [← hn] at hgl
  have HGL := Lib.hid hgl
  have HN := Lib.hid hn
  have HX := Lib.hid hx
  have HT2 := Lib.hid hT2
  have HRI := Lib.hid (fun k hk => (hG.rowIn k hk).2)
  have HG := Lib.hid hG
  have HF := Lib.hid hf
  have HID := Lib.hid hids
  rw [← hn] at hl
  clear hT hx hT2 hG hn hgl hf hids
  go_enter Try.func34, Try.ntmps34
  go_wp2_with (go_at_call 21; (with_reducible refine HGL.out.mono ?_); rintro e w0 ⟨a8, c8, rfl, ho, _, _, _, hb0⟩; have HO0 := Lib.hid ho; have HB0 := Lib.hid hb0; clear ho hb0)
  have hz0 := HB0.out.size
  go_loopw [12] (fun i wr => ∃ j : Nat, j ≤ n ∧ i = .int .i64 (j : Nat) ∧ GIs B gl a c (swapP (lkR bs rs) l j) wr ∧ KeepC B (ownS (a.map (·.block))) w wr ∧ wr.ownsRow w.heap.size 57 2 (.slice a8 n c8) n (gv l)) (fun i _ => n - (RowKit.intOf i).toNat)
  case atStart => exact ⟨0, Nat.zero_le _, rfl, by rw [swapP_zero]; exact HG.out.below HB0.out, KeepC.of HB0.out hB, HO0.out⟩
  case round =>
    obtain ⟨j, hj, rfl, hg, hk, ho⟩ := hrel
    rename World => wr
    have HGR := Lib.hid hg
    have HK := Lib.hid hk
    have HO := Lib.hid ho
    have hzr := hk.size
    clear hg hk ho
    by_cases hlt : j < n
    · obtain ⟨gi, p, rfl, hgi, hgz, hp, hc1, hc2, _, _, _, _⟩ := grow_at HO.out HN.out.symm hlt
      have hpp := swapP_get (lkR bs rs) l j p hp
      have hidp := HID.out p (List.mem_of_getElem? hp)
      have HPP := Lib.hid hpp
      have HP := Lib.hid hp
      obtain ⟨p1, p2⟩ := p
      simp only at hidp hc1 hc2
      clear hpp hp
      by_cases h5 : p1 = 65535
      · have d1 : (p1 == 65535) = true := by simpa using h5
        have hsame := swapP_same (lkR bs rs) l j (p1, p2) HP.out (by unfold swap1; rw [if_pos h5])
        have HS := Lib.hid hsame
        clear hsame h5
        go_wp2_with fail
        go_roundw
        case rel => exact ⟨j + 1, hlt, by go_num, by rw [HS.out]; exact HGR.out.below (balloc (brefl _) _), HK.out.trans (KeepC.of (balloc (brefl _) _) (Nat.le_trans hB hzr)), HO.out.alloc _⟩
        case measure => simp only [RowKit.intOf]; omega
      · have d1 : (p1 == 65535) = false := by simpa using h5
        have HGT := Lib.hid (fun W (hW : TabIs Bt gt fmt (tabR bs rs).1 (tabR bs rs).2 W) => show Calls Try.prog 64 #[.pointer (some ⟨gt, 0, none⟩), .int .i64 p1] W fun e w' => e = .returned (.tuple #[.int .i64 ((lkR bs rs p1).1 : Nat), .bool (lkR bs rs p1).2]) ∧ Below W.heap.size W w' from get_fn Bt gt fmt _ _ p1 W hW HF.out hidp)
        have HS := Lib.hid (show (lkR bs rs p1).2 = true → setG (swapP (lkR bs rs) l j) (j : Nat) ((lkR bs rs p1).1 : Nat) = swapP (lkR bs rs) l (j + 1) from fun h => by
          rw [setG_of HPP.out, ← swapP_set (lkR bs rs) l j (p1, p2) HP.out]
          unfold swap1
          rw [if_neg h5, if_pos h])
        have HNS := Lib.hid (show (lkR bs rs p1).2 = false → swapP (lkR bs rs) l (j + 1) = swapP (lkR bs rs) l j from fun h => swapP_same (lkR bs rs) l j (p1, p2) HP.out (by unfold swap1; rw [if_neg h5, if_neg (by rw [h]; decide)]))
        generalize lkR bs rs p1 = q at *
        obtain ⟨q1, q2⟩ := q
        simp only at HGT HS HNS
        clear h5
        go_wp2_with fail
        obtain ⟨V, hV⟩ : ∃ V, V = wr.alloc (Obj.cells #[.int .i64 p1, .int .i64 p2] 57) := ⟨_, rfl⟩
        have hbV : Below wr.heap.size wr V := by rw [hV]; exact balloc (brefl _) _
        have x6 : V.heap[wr.heap.size]? = some (.cells #[.int .i64 p1, .int .i64 p2] 57 (0, 0)) := by rw [hV]; exact (heap_push _ _ _).trans (if_pos rfl)
        have hxV := (hbV.block _ (Array.getElem?_eq_some_iff.1 (HK.out.kept _ _ _ _ HX.out (ownS_no (by decide) _) |>.trans HX.out)).1).trans (HK.out.kept _ _ _ _ HX.out (ownS_no (by decide) _) |>.trans HX.out)
        rw [← hV]
        have q6 := fun o => cell_of_heap x6 o
        have l6 := (Array.getElem?_eq_some_iff.1 x6).1
        have qx := cell_of_heap hxV 0
        have lx := (Array.getElem?_eq_some_iff.1 hxV).1
        simp only [List.getElem?_toArray, List.getElem?_cons_zero] at qx
        have HGV := Lib.hid (HGR.out.below hbV)
        have HKV := Lib.hid (HK.out.trans (KeepC.of hbV (Nat.le_trans hB hzr)))
        have HTV := Lib.hid (HT2.out.keepS HKV.out)
        have HOV := Lib.hid (owns_below HO.out hbV (Nat.le_refl _))
        have HGT2 := Lib.hid (fun W (hW : Below V.heap.size V W) => HGT.out W (HTV.out.below hW))
        clear hV hbV x6 hxV hc1 hc2
        refine wp_region_tree (.step 0 (.step 1 (.step 2 (.step 3 (.step 4 (.step 5 (.step 6 (.step 7 (.step 8 (.step 9 (.step 10 (.step 11 .nil)))))))))))) (by kernel_rfl) (by kernel_rfl) (by kernel_rfl) (by kernel_rfl) (by intro _ _ d_ _ _ h_; cases d_ <;> first | exact h_ | (dsimp +zetaDelta only at h_ ⊢; exact h_)) (fun w' => ∃ p : Wld V [], w' = p.val) (wld_start _ _) ?_
        have hG_ := @wldC V
        (refine tree_quiet (by simp only [List.getElem?_toArray, List.getElem?_cons_succ, List.getElem?_cons_zero]; rfl) (by rfl) (by rfl) (fun K_ hK_ => ?_); go_big_quiet_op; refine hK_ _ ?_; clear hK_ K_)
        (refine tree_quiet (by simp only [List.getElem?_toArray, List.getElem?_cons_succ, List.getElem?_cons_zero]; rfl) (by rfl) (by rfl) (fun K_ hK_ => ?_); go_big_quiet_op; refine hK_ _ ?_; clear hK_ K_)
        (refine tree_quiet (by simp only [List.getElem?_toArray, List.getElem?_cons_succ, List.getElem?_cons_zero]; rfl) (by rfl) (by rfl) (fun K_ hK_ => ?_); go_big_quiet_op; refine hK_ _ ?_; clear hK_ K_)
        (refine tree_quiet (by simp only [List.getElem?_toArray, List.getElem?_cons_succ, List.getElem?_cons_zero]; rfl) (by rfl) (by rfl) (fun K_ hK_ => ?_); go_big_quiet_op; refine hK_ _ ?_; clear hK_ K_)
        (refine tree_quiet (by simp only [List.getElem?_toArray, List.getElem?_cons_succ, List.getElem?_cons_zero]; rfl) (by rfl) (by rfl) (fun K_ hK_ => ?_); go_big_quiet_op; refine hK_ _ ?_; clear hK_ K_)
        (refine tree_quiet (by simp only [List.getElem?_toArray, List.getElem?_cons_succ, List.getElem?_cons_zero]; rfl) (by rfl) (by rfl) (fun K_ hK_ => ?_); go_big_quiet_op; refine hK_ _ ?_; clear hK_ K_)
        (refine tree_run (by simp only [List.getElem?_toArray, List.getElem?_cons_succ, List.getElem?_cons_zero]; rfl) (by rfl) (by rfl) (fun K_ hK_ => ?_); have HK_ := Lib.hid hK_; clear hK_; go_wp2_with ((go_at_call 64; (with_reducible refine (HGT2.out _ (by exact blw)).mono ?_); rintro e w2 ⟨rfl, hb2⟩)); refine HK_.out _ _ (wld_ofA) ?_; clear HK_)
        (refine tree_quiet (by simp only [List.getElem?_toArray, List.getElem?_cons_succ, List.getElem?_cons_zero]; rfl) (by rfl) (by rfl) (fun K_ hK_ => ?_); go_big_quiet_op; refine hK_ _ ?_; clear hK_ K_)
        (refine tree_quiet (by simp only [List.getElem?_toArray, List.getElem?_cons_succ, List.getElem?_cons_zero]; rfl) (by rfl) (by rfl) (fun K_ hK_ => ?_); go_big_quiet_op; refine hK_ _ ?_; clear hK_ K_)
        (refine tree_quiet (by simp only [List.getElem?_toArray, List.getElem?_cons_succ, List.getElem?_cons_zero]; rfl) (by rfl) (by rfl) (fun K_ hK_ => ?_); go_big_quiet_op; refine hK_ _ ?_; clear hK_ K_)
        (refine tree_quiet (by simp only [List.getElem?_toArray, List.getElem?_cons_succ, List.getElem?_cons_zero]; rfl) (by rfl) (by rfl) (fun K_ hK_ => ?_); go_big_quiet_op; refine hK_ _ ?_; clear hK_ K_)
        (refine tree_quiet (by simp only [List.getElem?_toArray, List.getElem?_cons_succ, List.getElem?_cons_zero]; rfl) (by rfl) (by rfl) (fun K_ hK_ => ?_); go_big_quiet_op; refine hK_ _ ?_; clear hK_ K_)
        refine tree_nil ?_
        clear hG_
        have hb2 : Below V.heap.size V w2 := (by exact blw)
        have HGW := Lib.hid (HGV.out.below hb2)
        have HOW := Lib.hid (owns_below HOV.out hb2 (Nat.le_refl _))
        have HKW := Lib.hid (HKV.out.trans (KeepC.of hb2 (Nat.le_trans hB HKV.out.size)))
        clear q6 qx
        cases q2 with
        | true =>
          have hst := gset_keep B gl a c _ w2 HGW.out (j : Nat) (q1 : Nat)
          rw [HS.out rfl] at hst
          have HST := Lib.hid hst
          clear hst HS
          go_wp2_with (go_at_call 65; (with_reducible refine HST.out.mono ?_); rintro e w3 ⟨rfl, hg3, hk3⟩; have HG3 := Lib.hid hg3; have HO3 := Lib.hid (owns_keepS HOW.out hk3 HRI.out); have HK3 := Lib.hid (HKW.out.trans hk3); clear hg3 hk3)
          go_roundw
          case rel => exact ⟨j + 1, hlt, by go_num, HG3.out, HK3.out, HO3.out⟩
          case measure => simp only [RowKit.intOf]; omega
        | false =>
          have hgw := HGW.out
          rw [← HNS.out rfl] at hgw
          have HGW := Lib.hid hgw
          clear hgw HNS
          go_wp2_with fail
          go_roundw
          case rel => exact ⟨j + 1, hlt, by go_num, HGW.out, HKW.out, HOW.out⟩
          case measure => simp only [RowKit.intOf]; omega
    · obtain rfl : n = j := by omega
      go_wp2_with fail
      go_ret
      exact ⟨rfl, by have := HGR.out; rwa [swapP_all _ _ _ (by rw [← HN.out]; exact Nat.le_refl _)] at this, HK.out⟩
end Go.Proofs.Ytcegoenlajkgfaa
end
section

/- Read of a subtable of single glyphs, and what its law asks first. Conditions: bytes as the slice says. -/
namespace Go.Proofs.Ytcegoenlajkgfaa
open Go.RowKit Go.Lib

def SwReadIs (bs : List UInt8) (zg : Int) (w : World) (e : Ending) (w' : World) : Prop :=
  (((zg < 1 ∨ 65535 < zg) ∧ e = .returned (.tuple #[.pointer none, .int .i64 1])) ∨
   (1 ≤ zg ∧ zg ≤ 65535 ∧ (∀ rs, ¬ LkOk bs zg.toNat 2 rs) ∧ e = .returned (.tuple #[.pointer none, .int .i64 2])) ∨
   (1 ≤ zg ∧ zg ≤ 65535 ∧ ∃ rs gx, LkOk bs zg.toNat 2 rs ∧ e = .returned (.tuple #[.pointer (some ⟨gx, 0, none⟩), .int .i64 0]) ∧ SwIs w.heap.size gx bs rs w')) ∧ Below w.heap.size w w'
set_option maxRecDepth 100000 in
set_option maxHeartbeats 1600000 in
theorem swread_any (a : Option Addr) (n c : Nat) (bs : List UInt8) (zg : Int) (w : World) (h : Has w a (bytesV bs)) (hl : bs.length = n) (hn : n ≤ c) (hc : c ≤ maxLen) (hzg : -9223372036854775808 ≤ zg ∧ zg ≤ 9223372036854775807) :
    Calls Try.prog 30 #[.slice a n c, .int .i64 zg] w (SwReadIs bs zg w) := by
  have hAC := allocC
  have hAF := allocF
  have HR := Lib.hid (lread_any a n c bs zg 2 w h hl hn hc hzg (by decide))
  clear h hl hAC hAF
  unfold SwReadIs
  go_enter Try.func30, Try.ntmps30
  go_wp2_with fail
  refine HR.out.mono ?_
  rintro e w1 ⟨(⟨hb, rfl⟩ | ⟨hb, hno, rfl⟩ | ⟨hb, rs, g, hok, rfl, hT⟩), hb1⟩
  · go_wp2_with fail
    go_ret2
    exact ⟨.inl ⟨by unfold badLk at hb; omega, rfl⟩, hb1⟩
  · go_wp2_with fail
    go_ret2
    exact ⟨.inr (.inl ⟨by unfold badLk at hb; omega, by unfold badLk at hb; omega, hno, rfl⟩), hb1⟩
  · have HT := Lib.hid hT
    have HOK := Lib.hid hok
    clear hT hok
    go_wp2_with fail
    go_ret2
    exact ⟨.inr (.inr ⟨by unfold badLk at hb; omega, by unfold badLk at hb; omega, rs, w1.heap.size, HOK.out, rfl, ⟨g, _, by rw [heap_push]; exact if_pos rfl, HT.out.below (balloc (brefl _) _)⟩⟩), balloc hb1 _⟩
theorem swread_some (a : Option Addr) (n c : Nat) (bs : List UInt8) (glyphs : Nat) (zg : Int) (hzg : zg = (glyphs : Nat)) (rs : List RP) (w : World) (h : Has w a (bytesV bs)) (hl : bs.length = n) (hn : n ≤ c) (hc : c ≤ maxLen) (hg1 : 1 ≤ glyphs) (hg2 : glyphs ≤ 65535) (hok : LkOk bs glyphs 2 rs) :
    Calls Try.prog 30 #[.slice a n c, .int .i64 zg] w fun e w' => ∃ gx, e = .returned (.tuple #[.pointer (some ⟨gx, 0, none⟩), .int .i64 0]) ∧ SwIs w.heap.size gx bs rs w' ∧ Below w.heap.size w w' := by
  subst hzg
  refine (swread_any a n c bs _ w h hl hn hc (by omega)).mono ?_
  rintro e w' ⟨(⟨hb, _⟩ | ⟨_, _, hno, _⟩ | ⟨_, _, rs', gx, hok', he, hT⟩), hb1⟩
  · omega
  · exact absurd hok (by have := hno rs; rwa [Int.toNat_natCast] at this)
  · rw [Int.toNat_natCast] at hok'
    obtain rfl := hok.det hok'
    exact ⟨gx, he, hT, hb1⟩
theorem swread_none (a : Option Addr) (n c : Nat) (bs : List UInt8) (glyphs : Nat) (zg : Int) (hzg : zg = (glyphs : Nat)) (w : World) (h : Has w a (bytesV bs)) (hl : bs.length = n) (hn : n ≤ c) (hc : c ≤ maxLen) (hg1 : 1 ≤ glyphs) (hg2 : glyphs ≤ 65535) (hno : ∀ rs, ¬ LkOk bs glyphs 2 rs) :
    Calls Try.prog 30 #[.slice a n c, .int .i64 zg] w fun e w' => e = .returned (.tuple #[.pointer none, .int .i64 2]) ∧ Below w.heap.size w w' := by
  subst hzg
  refine (swread_any a n c bs _ w h hl hn hc (by omega)).mono ?_
  rintro e w' ⟨(⟨hb, _⟩ | ⟨_, _, _, he⟩ | ⟨_, _, rs', gx, hok', _⟩), hb1⟩
  · omega
  · exact ⟨he, hb1⟩
  · rw [Int.toNat_natCast] at hok'
    exact absurd hok' (hno rs')
/-- The document's Read of a lookup. -/
theorem reflk_yes (a : Option Addr) (n c : Nat) (bs : List UInt8) (glyphs : Nat) (zg : Int) (hzg : zg = (glyphs : Nat)) (rs : List RP) (w : World) (h : Has w a (bytesV bs)) (hl : bs.length = n) (hn : n ≤ c) (hc : c ≤ maxLen) (h20 : n ≤ 2000) (hg1 : 1 ≤ glyphs) (hg2 : glyphs ≤ 65535) (hok : LkOk bs glyphs 2 rs) :
    Calls Try.prog 31 #[.slice a n c, .int .i64 zg, .int .i64 2] w fun e w' => ∃ a' c', e = .returned (.tuple #[.agg #[.slice a n c, .slice a' rs.length c'], .bool true]) ∧ Has w' a' (encRs rs) ∧ Below w.heap.size w w' := by
  refine (refRead_any a n c bs glyphs 2 zg 2 hzg rfl hg1 hg2 (.inl rfl) w h hl hn hc h20).mono ?_
  rintro e w' ⟨(⟨rs', a', c', ho, he, hw, _⟩ | ⟨hno, _⟩), hb⟩
  · obtain rfl := hok.det ho
    exact ⟨a', c', he, hw, hb⟩
  · exact absurd hok (hno rs)
theorem reflk_no (a : Option Addr) (n c : Nat) (bs : List UInt8) (glyphs : Nat) (zg : Int) (hzg : zg = (glyphs : Nat)) (w : World) (h : Has w a (bytesV bs)) (hl : bs.length = n) (hn : n ≤ c) (hc : c ≤ maxLen) (h20 : n ≤ 2000) (hg1 : 1 ≤ glyphs) (hg2 : glyphs ≤ 65535) (hno : ∀ rs, ¬ LkOk bs glyphs 2 rs) :
    Calls Try.prog 31 #[.slice a n c, .int .i64 zg, .int .i64 2] w fun e w' => e = .returned (.tuple #[.agg #[.slice none 0 0, .slice none 0 0], .bool false]) ∧ Below w.heap.size w w' := by
  refine (refRead_any a n c bs glyphs 2 zg 2 hzg rfl hg1 hg2 (.inl rfl) w h hl hn hc h20).mono ?_
  rintro e w' ⟨(⟨rs', a', c', ho, _⟩ | ⟨_, he⟩), hb⟩
  · exact absurd ho (hno rs')
  · exact ⟨he, hb⟩
/-- The document's Get of it is the lookup's. -/
theorem lkR_ref {bs : List UInt8} {glyphs : Nat} {rs : List RP} (h : LkOk bs glyphs 2 rs) (hg : glyphs ≤ 65535) (id : Int) : refG bs rs id = lkR bs rs id := by
  have := (refG_tab bs rs h.ok (fun r hr => (h.rows.each hg (.inl rfl)).2 r hr) id rs.length (Nat.le_refl _)).1
  rw [List.take_length] at this
  exact this.symm
theorem reflkget (a : Option Addr) (n c : Nat) (bs : List UInt8) (glyphs : Nat) (a' : Option Addr) (c' : Nat) (rs : List RP) (id : Int) (w : World) (h : Has w a (bytesV bs)) (hl : bs.length = n) (h20 : n ≤ 2000) (hr : Has w a' (encRs rs)) (hg : glyphs ≤ 65535) (hok : LkOk bs glyphs 2 rs) (hid : -9223372036854775808 ≤ id ∧ id ≤ 9223372036854775807) :
    Calls Try.prog 32 #[.agg #[.slice a n c, .slice a' rs.length c'], .int .i64 id] w fun e w' => e = .returned (.tuple #[.int .i64 ((lkR bs rs id).1 : Nat), .bool (lkR bs rs id).2]) ∧ Below w.heap.size w w' := by
  rw [← lkR_ref hok hg]
  exact refget_any a n c bs a' c' rs id w h hl (by omega) hr (by have := (hok.rows.each hg (.inl rfl)).1; omega) (by have := hok.fitG hg (.inl rfl); rwa [hl] at this) hid
end Go.Proofs.Ytcegoenlajkgfaa
end
section

/- What law 16 asks first, and how much it looks at. No condition. -/
namespace Go.Proofs.Ytcegoenlajkgfaa
open Go.RowKit Go.Lib

theorem GRow.litAt (w : World) (l : List (Int × Int)) (B g : Nat) (hg : g = w.heap.size) (hB : B ≤ w.heap.size) (hl : l.length ≤ maxLen) (cs : Array Value) (hc : cs.toList = gv l) : GRow B l (.slice (some ⟨g, 0, none⟩) l.length l.length) (w.alloc (.cells cs 57)) := by
  subst hg
  exact GRow.lit w l B hB hl cs hc
def bytesX : List UInt8 := [0, 8, 0, 5, 0, 2, 0, 6, 0, 7]
def rsX : List RP := rowsT 5 2 6 2
theorem okX : LkOk bytesX 9 2 rsX := by
  refine ⟨.eight (by decide) (by decide) (by decide), ?_⟩
  exact (ok_rowsT _ _ _ _ _ (by decide)).2 (by decide)
theorem swapX : swapL (lkR bytesX rsX) [(5, 0), (6, 1)] = [(6, 0), (7, 1)] := by decide +kernel
set_option maxRecDepth 100000 in
set_option maxHeartbeats 3200000 in
theorem speaks16_any (w : World) : Calls Try.prog 28 #[] w fun e w' => e = .returned (.bool true) ∧ Below w.heap.size w w' := by
  have hAC := allocC
  have hAF := allocF
  have e01 : newG [5, 6] = [(5, 0), (6, 1)] := by rfl
  have HR := Lib.hid (swread_some (some ⟨w.heap.size, 0, none⟩) 10 10 bytesX 9 9 rfl rsX (w.alloc (.cells #[.int .u8 0, .int .u8 8, .int .u8 0, .int .u8 5, .int .u8 0, .int .u8 2, .int .u8 0, .int .u8 6, .int .u8 0, .int .u8 7] 5)) (has_alloc w #[.int .u8 0, .int .u8 8, .int .u8 0, .int .u8 5, .int .u8 0, .int .u8 2, .int .u8 0, .int .u8 6, .int .u8 0, .int .u8 7] 5) rfl (Nat.le_refl _) (by decide) (by decide) (by decide) okX)
  go_enter Try.func28, Try.ntmps28
  go_wp2_with (first
    | (go_at_call 30; (with_reducible refine HR.out.mono ?_); rintro e w7 ⟨gt, rfl, hT, hb7⟩; have HT := Lib.hid hT; have HB7 := Lib.hid ((balloc (brefl w) (.cells #[.int .u8 0, .int .u8 8, .int .u8 0, .int .u8 5, .int .u8 0, .int .u8 2, .int .u8 0, .int .u8 6, .int .u8 0, .int .u8 7] 5)).trans (hb7.mono (by simp))); clear hT hb7)
    | (go_at_call 17; (with_reducible refine (gnew_any (some ⟨w7.heap.size, 0, none⟩) 2 2 [5, 6] (w7.alloc (.cells #[.int .i64 5, .int .i64 6] 3)) (has_alloc w7 _ _) rfl (by decide)).mono ?_); rintro e w8 ⟨gl, a8, c8, rfl, hG, hgl, hb8⟩; rw [e01] at hG; have hb78 := (balloc (brefl w7) (.cells #[.int .i64 5, .int .i64 6] 3)).trans (hb8.mono (by simp)); have HT8 := Lib.hid (HT.out.below hb78); have HB8 := Lib.hid (HB7.out.trans (hb78.mono HB7.out.size)); have HG8 := Lib.hid (hG.mono (show w.heap.size ≤ _ from by have := HB7.out.size; simp only [World.size_alloc]; omega)); have hx := swrun_any _ gt bytesX rsX w.heap.size gl a8 c8 _ w8 HT8.out (okX.fit (by decide) (.inl rfl)) HG8.out HB8.out.size (by decide) (by decide); rw [swapX] at hx; have HX := Lib.hid hx; clear hG hb8 hb78 hgl hx)
    | (go_at_call 34; (with_reducible refine HX.out.mono ?_); rintro e w9 ⟨rfl, hG, hk9⟩; have HG9 := Lib.hid hG; have HB9 := Lib.hid (HB8.out.trans hk9.below); clear hG hk9)
    | (go_at_call 21; (with_reducible refine (gglyphs_any w.heap.size gl a8 c8 _ w9 HG9.out (by decide)).mono ?_); rintro e w10 ⟨a10, c10, rfl, ho, _, _, _, hb10⟩; have HH10 := Lib.hid (has_of_owns ho); have HB10 := Lib.hid (HB9.out.trans (hb10.mono HB9.out.size)); clear ho hb10)
    | (go_at_call 22; (refine (refSameG_any a10 (some ⟨w10.heap.size, 0, none⟩) 2 c10 2 2 [(6, 0), (7, 1)] [(6, 0), (7, 1)] (w10.alloc (.cells #[.int .i64 6, .int .i64 0, .int .i64 7, .int .i64 1] 57)) (HH10.out.below (balloc (brefl w10) _)) rfl (has_alloc w10 #[.int .i64 6, .int .i64 0, .int .i64 7, .int .i64 1] 57) rfl (by decide) (by decide)).mono ?_); rintro e w11 ⟨rfl, hb11⟩; rw [decide_eq_true rfl]; have HB11 := Lib.hid (HB10.out.trans ((balloc (brefl w10) (.cells #[.int .i64 6, .int .i64 0, .int .i64 7, .int .i64 1] 57)).trans (hb11.mono (by simp)) |>.mono HB10.out.size)); clear hb11))
  go_ret
  exact ⟨rfl, HB11.out⟩
theorem big16_any (ab : Option Addr) (nb cb : Nat) (al : Option Addr) (nl cl : Nat) (w : World) :
    Calls Try.prog 29 #[.slice ab nb cb, .slice al nl cl] w fun e w' => e = .returned (.bool (decide (600 < nb) || decide (60 < nl))) ∧ Below w.heap.size w w' := by
  by_cases h1 : 600 < nb
  · have d1 : decide ((600 : Int) < (nb : Int)) = true := by simp; omega
    rw [decide_eq_true h1, Bool.true_or]
    clear h1
    go_enter Try.func29, Try.ntmps29
    go_wp2_with fail
    go_ret
    exact ⟨rfl, blw⟩
  have d1 : decide ((600 : Int) < (nb : Int)) = false := by simp; omega
  rw [decide_eq_false h1, Bool.false_or]
  by_cases h2 : 60 < nl
  · have d2 : decide ((60 : Int) < (nl : Int)) = true := by simp; omega
    rw [decide_eq_true h2]
    clear h1 h2
    go_enter Try.func29, Try.ntmps29
    go_wp2_with fail
    go_ret
    exact ⟨rfl, blw⟩
  have d2 : decide ((60 : Int) < (nl : Int)) = false := by simp; omega
  rw [decide_eq_false h2]
  clear h1 h2
  go_enter Try.func29, Try.ntmps29
  go_wp2_with fail
  go_ret
  exact ⟨rfl, blw⟩
end Go.Proofs.Ytcegoenlajkgfaa
end
section

/- swap.Take, and the function within law 16's SwapTakes: a subtable of a View. What a line is behind a Run along another line. Conditions: as many bytes as the slice says. -/
namespace Go.Proofs.Ytcegoenlajkgfaa
open Go.RowKit Go.Lib

theorem GIs.keepS2 {B g c B0 : Nat} {a : Option Addr} {l : List (Int × Int)} {bk : Option Nat} {w w' : World} (h : GIs B g a c l w) (hk : KeepC B0 (ownS bk) w w') (hne : ∀ k, a.map (·.block) = some k → bk ≠ some k) : GIs B g a c l w' := by
  refine ⟨(hk.kept _ _ _ _ h.hd (by rintro ⟨h, _⟩; exact absurd h (by decide))).trans h.hd, h.row.1, ?_⟩
  rcases h.row.2 with h2 | ⟨b, cap, cur, hv, hg, hh, r⟩
  · exact .inl h2
  · refine .inr ⟨b, cap, cur, hv, hg, ?_, r⟩
    have ha : a.map (·.block) = some b := by
      injection hv with hv _ _
      rw [hv]; rfl
    rw [hk.kept b _ _ _ hh (by
      rintro ⟨_, h⟩
      exact hne b ha h)]
    exact hh
set_option maxRecDepth 100000 in
theorem swtake_ok (a : Option Addr) (n c : Nat) (bs : List UInt8) (rs : List RP) (w : World) (h : Has w a (bytesV bs)) (hl : bs.length = n) (hn : n ≤ c) (hc : c ≤ maxLen) (hok : LkOk bs 40 2 rs) :
    Calls Try.prog 37 #[.agg #[.slice a n c], .int .i64 40] w fun e w' => ∃ gx, e = .returned (.pointer (some ⟨gx, 0, none⟩)) ∧ SwIs w.heap.size gx bs rs w' ∧ w.heap.size ≤ gx ∧ Below w.heap.size w w' := by
  have hAC := allocC
  have hAF := allocF
  have HH := Lib.hid h
  have HT := Lib.hid (fun W (hW : Has W a (bytesV bs)) => show Calls Try.prog 67 #[.agg #[.slice a n c], .int .i64 40, .int .i64 2] W fun e w' => ∃ g, e = .returned (.pointer (some ⟨g, 0, none⟩)) ∧ TabIs W.heap.size g (num bs 0 2) (tabR bs rs).1 (tabR bs rs).2 w' ∧ Below W.heap.size W w' from take_ok a n c bs 40 2 rs W hW hl hn hc (by decide) (by decide) (by decide) hok)
  clear h hl hok
  go_enter Try.func37, Try.ntmps37
  go_wp2_with (go_at_call 67; (with_reducible refine (HT.out _ (HH.out.below (by exact blw))).mono ?_); rintro e w1 ⟨g, rfl, hM, hb1⟩; have HM := Lib.hid hM; have hz1 := hb1.size; clear hM)
  go_ret
  refine ⟨_, rfl, ⟨g, _, by rw [heap_push]; exact if_pos rfl, (HM.out.below (balloc (brefl _) _)).monoM (by simp)⟩, by simp only [World.size_alloc] at hz1; omega, blw⟩
set_option maxRecDepth 100000 in
theorem swtake_bad (a : Option Addr) (n c : Nat) (bs : List UInt8) (w : World) (h : Has w a (bytesV bs)) (hl : bs.length = n) (hn : n ≤ c) (hc : c ≤ maxLen) (hno : ∀ rs, ¬ LkOk bs 40 2 rs) :
    Calls Try.prog 37 #[.agg #[.slice a n c], .int .i64 40] w fun e w' => e = .panicked thrown ∧ Below w.heap.size w w' := by
  have hAC := allocC
  have hAF := allocF
  have HH := Lib.hid h
  have HT := Lib.hid (fun W (hW : Has W a (bytesV bs)) => show Calls Try.prog 67 #[.agg #[.slice a n c], .int .i64 40, .int .i64 2] W fun e w' => e = .panicked thrown ∧ Below W.heap.size W w' from take_bad a n c bs 40 2 W hW hl hn hc (by decide) (by decide) (by decide) hno)
  clear h hl hno
  go_enter Try.func37, Try.ntmps37
  go_wp2_with (go_at_call 67; (with_reducible refine (HT.out _ (HH.out.below (by exact blw))).mono ?_); rintro e w1 ⟨rfl, hb1⟩)
  exact ⟨rfl, rfl, blw⟩
theorem SwIs.setOther {Bt gx g3 : Nat} {bs : List UInt8} {rs : List RP} {w : World} {cs : Array Value} {fz : Nat × Nat} (h : SwIs Bt gx bs rs w) (hw : w.heap[g3]? = some (.cells cs 73 fz)) (v : Value) : SwIs Bt gx bs rs (w.setCell ⟨g3, 0, none⟩ v) := by
  obtain ⟨gt, fmt, h1, h2⟩ := h.is
  refine ⟨gt, fmt, ?_, h2.setOther (o := 0) hw (by decide) (by decide) (by decide) v⟩
  refine (set_heap_other _ ?_).trans h1
  rintro rfl
  rw [h1] at hw
  injection hw with hw
  injection hw with _ h4 _
  exact absurd h4 (by decide)
theorem SwIs.monoS {B B' gx : Nat} {bs : List UInt8} {rs : List RP} {w : World} (h : SwIs B gx bs rs w) (hb : B' ≤ B) : SwIs B' gx bs rs w := by
  obtain ⟨gt, fmt, h1, h2⟩ := h.is
  exact ⟨gt, fmt, h1, h2.monoM hb⟩
/-- What the function within SwapTakes leaves. -/
def XTake1 (B : Nat) (w : World) (g3 : Nat) (bs : List UInt8) (ok : Bool) (w' : World) : Prop :=
  (ok = true ∧ ∃ rs gx, LkOk bs 40 2 rs ∧ w'.heap[g3]? = some (.cells #[.pointer (some ⟨gx, 0, none⟩)] 73 (0, 0)) ∧ SwIs w.heap.size gx bs rs w' ∧ Below B w w' ∧ w.heap.size ≤ w'.heap.size) ∨
  (ok = false ∧ (∀ rs, ¬ LkOk bs 40 2 rs) ∧ Below w.heap.size w w')
theorem enter_xt1 (args : Array Value) (w : World) : (callFunc 36 args).run Try.prog w = .ok (.enter 36 args) w := by kernel_rfl
set_option maxRecDepth 100000 in
set_option maxHeartbeats 1600000 in
theorem xt1_any (B : Nat) (a : Option Addr) (n c : Nat) (bs : List UInt8) (g0 g3 : Nat) (x : Value) (w : World) (h : Has w a (bytesV bs)) (hl : bs.length = n) (hn : n ≤ c) (hc : c ≤ maxLen) (hB : B ≤ g3)
    (c0 : w.cell? ⟨g0, 0, none⟩ = some (.slice a n c))
    (c3 : w.heap[g3]? = some (.cells #[x] 73 (0, 0))) :
    Calls Try.prog 36 #[.pointer (some ⟨g0, 0, none⟩), .pointer (some ⟨g3, 0, none⟩)] w
      fun e w' => (e = .returned (.tuple #[]) ∧ XTake1 B w g3 bs true w') ∨ (e = .panicked thrown ∧ XTake1 B w g3 bs false w') := by
  have HH := Lib.hid h
  have HL := Lib.hid hl
  have C3 := Lib.hid c3
  have l0 := cell_lt c0
  have l3 := (Array.getElem?_eq_some_iff.1 c3).1
  simp only at l0 l3
  clear h hl c3
  by_cases hok : ∃ rs, LkOk bs 40 2 rs
  · obtain ⟨rs, hok⟩ := hok
    have HOK := Lib.hid hok
    have HT := Lib.hid (fun W hw => swtake_ok a n c bs rs W hw HL.out hn hc hok)
    clear hok
    go_enter Try.func36, Try.ntmps36
    go_wp2_with fail
    go_wp2_with (first | (go_at_call 27; (with_reducible refine (of_any _ _ _ _).mono ?_); rintro e wa ⟨rfl, hba⟩; have hac := bc hba; have haf := bf hba; have haz := hba.size; try simp only [World.size_alloc, World.size_drew] at haz) | (go_at_call 37; (with_reducible refine (HT.out _ (HH.out.below (by exact blw))).mono ?_); rintro e wb ⟨g, rfl, hown, _, hbb⟩; have hbz := hbb.size; have HOW := Lib.hid hown; have hB4 : Below w.heap.size w wb := blw; have c4b := (hB4.block g3 l3).trans C3.out; have q4 := cell_of_heap c4b 0; have f4 := froz_of_heap c4b 0; have HC4 := Lib.hid c4b; have HBB := Lib.hid hB4; clear hown hbb hB4 c4b))
    go_end0
    refine .inl ⟨rfl, .inl ⟨rfl, rs, g, HOK.out, set_heap_at _ HC4.out, ?_, (HBB.out.mono (Nat.le_of_lt (by omega))).setCell (p := ⟨g3, 0, none⟩) hB _, by have := HBB.out.size; simpa using this⟩⟩
    exact (HOW.out.setOther HC4.out (.pointer (some ⟨g, 0, none⟩))).monoS (by omega)
  · have HNO := Lib.hid (show ∀ rs, ¬ LkOk bs 40 2 rs from fun rs ho => hok ⟨rs, ho⟩)
    have HT := Lib.hid (fun W hw => swtake_bad a n c bs W hw HL.out hn hc HNO.out)
    clear hok
    go_enter Try.func36, Try.ntmps36
    go_wp2_with fail
    go_wp2_with (first | (go_at_call 27; (with_reducible refine (of_any _ _ _ _).mono ?_); rintro e wa ⟨rfl, hba⟩; have hac := bc hba; have haf := bf hba; have haz := hba.size; try simp only [World.size_alloc, World.size_drew] at haz) | (go_at_call 37; (with_reducible refine (HT.out _ (HH.out.below (by exact blw))).mono ?_); rintro e wb ⟨rfl, hbb⟩))
    exact ⟨rfl, .inr ⟨rfl, .inr ⟨rfl, HNO.out, blw⟩⟩⟩
end Go.Proofs.Ytcegoenlajkgfaa
end
