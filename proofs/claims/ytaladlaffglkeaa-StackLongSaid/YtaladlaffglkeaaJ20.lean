/- Joined from: KTPush KTDo KTRun KTSpk KTUse KTLong. -/
import Derived.Test.YtaladlaffglkeaaJ01
import Derived.Test.YtaladlaffglkeaaJ19
import Derived.Test.YtaladlaffglkeaaJ13
import Derived.Test.YtaladlaffglkeaaJ03
import Derived.Test.YtaladlaffglkeaaJ16
import Derived.Test.YtaladlaffglkeaaJ14
import Derived.Test.YtaladlaffglkeaaJ15
section

/- stack: one more place is kept. Conditions: up to eight of them in memory. -/
namespace Go.Proofs.Ytaladlaffglkeaa
open Go.RowKit Go.Lib

theorem int_one : (Try.prog.info? 3).map (·.size) = some 1 := by kernel_rfl
theorem kcells_copy {arr : List Int} (h : arr.length = 8) (n : Nat) : splice (kcells arr n) 0 ((arr.drop 1).map (Value.int .i64)) = kcells (arr.drop 1 ++ arr.drop 7) n := by
  match arr, h with
  | [a0, a1, a2, a3, a4, a5, a6, a7], _ => rfl
set_option maxHeartbeats 1600000 in
theorem kpush_few (B g : Nat) (ks : List Nat) (i : Nat) (w : World) (h : KSt g ks w) (hB : B ≤ g) (hl : ks.length < 8) :
    Calls Try.prog 82 #[.pointer (some ⟨g, 0, none⟩), .int .i64 (i : Nat)] w fun e w' => e = .returned (.tuple #[]) ∧ KSt g (i :: ks) w' ∧ KeepC B (ownK1 g) w w' := by
  obtain ⟨arr, h1, h2, h3, h4⟩ := h
  have q8 := (heap_cell h4 8).trans (kcells_n h1 _)
  have f8 := fun o => froz_of_heap h4 o
  have l8 := (Array.getElem?_eq_some_iff.1 h4).1
  obtain ⟨z0, _, hz0⟩ := kcells_at h1 ks.length hl
  have q0 := (heap_cell h4 ks.length).trans hz0
  have f0 := f8 ks.length
  clear hz0
  have h5 := heap_set (o := ks.length) (.int .i64 (i : Nat)) h4
  rw [kcells_set h1 _ hl] at h5
  have h1' : (arr.set ks.length (i : Nat)).length = 8 := by rw [List.length_set]; exact h1
  have e8 := (heap_cell h5 8).trans (kcells_n h1' _)
  have ef := fun o => froz_of_heap h5 o
  have l5 := (Array.getElem?_eq_some_iff.1 h5).1
  have h6 := heap_set (o := 8) (.int .i64 ((ks.length + 1 : Nat) : Int)) h5
  rw [kcells_setn h1'] at h6
  have hfin : (arr.set ks.length (i : Nat)).take (ks.length + 1) = (i :: ks).reverse.map (fun (k : Nat) => (k : Int)) := by
    rw [List.take_add_one, List.take_set_of_le (Nat.le_refl _), h3, List.getElem?_set_self (by omega)]
    simp
  have H4 := Lib.hid h4
  have H5 := Lib.hid h5
  have H6 := Lib.hid h6
  have HFIN := Lib.hid hfin
  clear h4 h5 h6 h3 hfin
  have hne : ¬ (8 : Nat) = ks.length := by omega
  obtain ⟨n, hn⟩ : ∃ n, n = ks.length := ⟨_, rfl⟩
  rw [← hn] at q8 e8 ef l5 hl hne q0 f0
  have HN := Lib.hid hn
  have dz : ((n : Int) == 8) = false := by simp; omega
  clear hn h2
  go_enter Try.func82, Try.ntmps82
  go_wp2_with fail
  refine wp_region_lastY (.step 0 (.step 1 (.step 2 (.step 3 (.step 4 (.step 5 (.step 6 (.step 7 (.step 8 (.step 9 .nil)))))))))) 9 (by kernel_rfl) (by kernel_rfl) (by kernel_rfl) (by kernel_rfl) (by kernel_rfl) (by intro _ _ d_ _ _ h_; cases d_ <;> first | exact h_ | (dsimp +zetaDelta only at h_ ⊢; exact h_)) (fun w' => ∃ p : Wld w [], w' = p.val) (wld_start _ _) ?_
  have hG_ := @wldC w
  (refine z_quiet gtA (by rfl) (by rfl) (fun K_ hK_ => ?_); go_big_quiet_op; refine hK_ _ ?_; clear hK_ K_)
  (refine z_quiet gtA (by rfl) (by rfl) (fun K_ hK_ => ?_); go_big_quiet_op; refine hK_ _ ?_; clear hK_ K_)
  (refine z_quiet gtA (by rfl) (by rfl) (fun K_ hK_ => ?_); go_big_quiet_op; refine hK_ _ ?_; clear hK_ K_)
  (refine z_quiet gtA (by rfl) (by rfl) (fun K_ hK_ => ?_); go_big_quiet_op; refine hK_ _ ?_; clear hK_ K_)
  (refine z_quiet gtA (by rfl) (by rfl) (fun K_ hK_ => ?_); go_big_quiet_op; refine hK_ _ ?_; clear hK_ K_)
  (refine z_quiet gtA (by rfl) (by rfl) (fun K_ hK_ => ?_); go_big_quiet_op; refine hK_ _ ?_; clear hK_ K_)
  (refine z_quiet gtA (by rfl) (by rfl) (fun K_ hK_ => ?_); go_big_quiet_op; refine hK_ _ ?_; clear hK_ K_)
  (refine z_quiet gtA (by rfl) (by rfl) (fun K_ hK_ => ?_); go_big_quiet_op; refine hK_ _ ?_; clear hK_ K_)
  (refine z_quiet gtA (by rfl) (by rfl) (fun K_ hK_ => ?_); go_big_quiet_op; refine hK_ _ ?_; clear hK_ K_)
  (refine z_last gtA (by rfl) (by rfl) (by rfl) (fun K_ hK_ => ?_); have HK_ := Lib.hid hK_; clear hK_; go_wp2_with (fail); refine HK_.out _ _ ?_; clear HK_)
  refine z_nil ?_
  clear hG_
  go_wp2_with fail
  go_end0
  rw [HN.out]
  refine ⟨rfl, ?_, ?_⟩
  · refine KSt.below (w := (w.setCell ⟨g, ks.length, none⟩ (.int .i64 (i : Nat))).setCell ⟨g, 8, none⟩ (.int .i64 ((ks.length + 1 : Nat) : Int))) ⟨_, h1', by have := HN.out; simp only [List.length_cons]; omega, HFIN.out, H6.out⟩ (bdrew1 (brefl _))
  · exact (((KeepC.refl _ _ w).set hB H4.out ⟨rfl, rfl⟩ _).set hB H5.out ⟨rfl, rfl⟩ _).trans (KeepC.of (bdrew1 (brefl _)) (by have := (Array.getElem?_eq_some_iff.1 H4.out).1; simp; omega))
set_option maxHeartbeats 1600000 in
theorem kpush_full (B g : Nat) (ks : List Nat) (i : Nat) (w : World) (h : KSt g ks w) (hB : B ≤ g) (hl : ks.length = 8) :
    Calls Try.prog 82 #[.pointer (some ⟨g, 0, none⟩), .int .i64 (i : Nat)] w fun e w' => e = .returned (.tuple #[]) ∧ KSt g ((i :: ks).take 8) w' ∧ KeepC B (ownK1 g) w w' := by
  obtain ⟨arr, h1, h2, h3, h4⟩ := h
  rw [hl] at h3 h4
  have q8 := (heap_cell h4 8).trans (kcells_n h1 _)
  have f8 := fun o => froz_of_heap h4 o
  have l8 := (Array.getElem?_eq_some_iff.1 h4).1
  have h1' : (arr.drop 1 ++ arr.drop 7).length = 8 := by simp [h1]
  have hsrc : ∀ j v, ((arr.drop 1).map (Value.int .i64))[j]? = some v → w.cell? ((⟨g, 1, none⟩ : Addr).add j) = some v := by
    intro j v hj
    have hlt := (List.getElem?_eq_some_iff.1 hj).1
    simp [h1] at hlt
    rw [show (⟨g, 1, none⟩ : Addr).add j = ⟨g, 1 + j, none⟩ from by simp [Addr.add], heap_cell h4, kcells, List.getElem?_append_left (by simp [h1]; omega)]
    rw [← hj, List.map_drop, List.getElem?_drop]
  have hlen : ((arr.drop 1).map (Value.int .i64)).length = Nat.min 7 8 * 1 := by simp [h1]
  have hone : ∀ v ∈ (arr.drop 1).map (Value.int .i64), v.oneCell' = true := by
    intro v hv
    simp only [List.mem_map] at hv
    obtain ⟨_, _, rfl⟩ := hv
    rfl
  have H4 := Lib.hid h4
  have HS := Lib.hid hsrc
  have HO := Lib.hid hone
  have HL := Lib.hid hlen
  clear h4 hsrc hone hlen
  go_enter Try.func82, Try.ntmps82
  go_wp2_with fail
  refine wp_region_lastY (.step 0 (.step 1 (.step 2 (.step 3 (.step 4 (.step 5 (.step 6 (.step 7 (.step 8 .nil))))))))) 8 (by kernel_rfl) (by kernel_rfl) (by kernel_rfl) (by kernel_rfl) (by kernel_rfl) (by intro _ _ d_ _ _ h_; cases d_ <;> first | exact h_ | (dsimp +zetaDelta only at h_ ⊢; exact h_)) (fun w' => ∃ p : Wld w [], w' = p.val) (wld_start _ _) ?_
  have hG_ := @wldC w
  (refine z_quiet gtA (by rfl) (by rfl) (fun K_ hK_ => ?_); go_big_quiet_op; refine hK_ _ ?_; clear hK_ K_)
  (refine z_quiet gtA (by rfl) (by rfl) (fun K_ hK_ => ?_); go_big_quiet_op; refine hK_ _ ?_; clear hK_ K_)
  (refine z_quiet gtA (by rfl) (by rfl) (fun K_ hK_ => ?_); go_big_quiet_op; refine hK_ _ ?_; clear hK_ K_)
  (refine z_quiet gtA (by rfl) (by rfl) (fun K_ hK_ => ?_); go_big_quiet_op; refine hK_ _ ?_; clear hK_ K_)
  (refine z_quiet gtA (by rfl) (by rfl) (fun K_ hK_ => ?_); go_big_quiet_op; refine hK_ _ ?_; clear hK_ K_)
  (refine z_quiet gtA (by rfl) (by rfl) (fun K_ hK_ => ?_); go_big_quiet_op; refine hK_ _ ?_; clear hK_ K_)
  (refine z_quiet gtA (by rfl) (by rfl) (fun K_ hK_ => ?_); go_big_quiet_op; refine hK_ _ ?_; clear hK_ K_)
  (refine z_quiet gtA (by rfl) (by rfl) (fun K_ hK_ => ?_); go_big_quiet_op; refine hK_ _ ?_; clear hK_ K_)
  (refine z_last gtA (by rfl) (by rfl) (by rfl) (fun K_ hK_ => ?_); have HK_ := Lib.hid hK_; clear hK_; (first | ((refine wpCopyO _ _ 23 23 rfl 3 1 Try.underlying23 int_one g 0 8 8 ⟨g, 1, none⟩ 7 7 rfl rfl (kcells arr 8).toArray 175 H4.out ((arr.drop 1).map (Value.int .i64)) HL.out HS.out (by simp [kcells, h1]) HO.out ?_; intro w1 hh1 ho1 hz1 hb1; have hh1 : w1.heap[g]? = some (.cells (kcells (arr.drop 1 ++ arr.drop 7) 8).toArray 175 (0, 0)) := (by rw [← kcells_copy h1 8]; exact hh1))) | (go_wp2_with (fail))); refine HK_.out _ _ ?_; clear HK_)
  refine z_nil ?_
  clear hG_
  dsimp only [Act.put]
  simp only [List.setIfInBounds_toArray, List.set_cons_succ, List.set_cons_zero]
  have HK1 := Lib.hid (show KeepC B (ownK1 g) w w1 from ⟨((bdrew1 (brefl w)).mono (by omega)).trans (hb1.mono hB), by rw [hz1]; exact Nat.le_refl _, fun k cs t fz hk ho => ho1 k fun e => by
    subst e
    rw [H4.out] at hk
    cases hk
    exact ho ⟨rfl, rfl⟩⟩)
  clear ho1 hz1 hb1 q8 f8 l8
  obtain ⟨arr2, ha2⟩ : ∃ l, l = arr.drop 1 ++ arr.drop 7 := ⟨_, rfl⟩
  rw [← ha2] at hh1 h1'
  have q8 := (heap_cell hh1 8).trans (kcells_n h1' _)
  have f8 := froz_of_heap hh1 8
  have l8 := (Array.getElem?_eq_some_iff.1 hh1).1
  rw [show ((8 : Nat) : Int) = 8 from rfl] at q8
  have hh2 := heap_set (o := 8) (.int .i64 ((7 : Nat) : Int)) hh1
  rw [kcells_setn h1'] at hh2
  rw [show ((7 : Nat) : Int) = 7 from rfl] at hh2
  obtain ⟨z0, _, hz0⟩ := kcells_at h1' 7 (j := 7) (by decide)
  have p7 := (heap_cell hh2 7).trans hz0
  have p8 := (heap_cell hh2 8).trans (kcells_n h1' _)
  rw [show ((7 : Nat) : Int) = 7 from rfl] at p8
  have pf := froz_of_heap hh2 7
  have pl := (Array.getElem?_eq_some_iff.1 hh2).1
  have hh3 := heap_set (o := 7) (.int .i64 (i : Nat)) hh2
  rw [kcells_set h1' _ (by decide)] at hh3
  have h1'' : (arr2.set 7 (i : Nat)).length = 8 := by rw [List.length_set]; exact h1'
  have hh4 := heap_set (o := 8) (.int .i64 ((8 : Nat) : Int)) hh3
  rw [kcells_setn h1''] at hh4
  have r8 := (heap_cell hh3 8).trans (kcells_n h1'' _)
  rw [show ((7 : Nat) : Int) = 7 from rfl] at r8
  have rf := froz_of_heap hh3 8
  have rl := (Array.getElem?_eq_some_iff.1 hh3).1
  have HH1 := Lib.hid hh1
  have HH2 := Lib.hid hh2
  have HH3 := Lib.hid hh3
  have HH4 := Lib.hid hh4
  have HA2 := Lib.hid ha2
  clear hh1 hh2 hh3 hh4 hz0 ha2
  go_wp2_with fail
  obtain ⟨W2, hW2⟩ : ∃ W2, W2 = w1.setCell ⟨g, 8, none⟩ (.int .i64 7) := ⟨_, rfl⟩
  rw [← hW2] at p7 p8 pf pl r8 rf rl ⊢
  have HW2 := Lib.hid hW2
  clear hW2 q8 f8 l8
  refine wp_region_lastY (.step 0 (.step 1 (.step 2 (.step 3 (.step 4 (.step 5 (.step 6 (.step 7 (.step 8 (.step 9 .nil)))))))))) 9 (by kernel_rfl) (by kernel_rfl) (by kernel_rfl) (by kernel_rfl) (by kernel_rfl) (by intro _ _ d_ _ _ h_; cases d_ <;> first | exact h_ | (dsimp +zetaDelta only at h_ ⊢; exact h_)) (fun w' => ∃ p : Wld W2 [], w' = p.val) (wld_start _ _) ?_
  have hG_ := @wldC W2
  (refine z_quiet gtA (by rfl) (by rfl) (fun K_ hK_ => ?_); go_big_quiet_op; refine hK_ _ ?_; clear hK_ K_)
  (refine z_quiet gtA (by rfl) (by rfl) (fun K_ hK_ => ?_); go_big_quiet_op; refine hK_ _ ?_; clear hK_ K_)
  (refine z_quiet gtA (by rfl) (by rfl) (fun K_ hK_ => ?_); go_big_quiet_op; refine hK_ _ ?_; clear hK_ K_)
  (refine z_quiet gtA (by rfl) (by rfl) (fun K_ hK_ => ?_); go_big_quiet_op; refine hK_ _ ?_; clear hK_ K_)
  (refine z_quiet gtA (by rfl) (by rfl) (fun K_ hK_ => ?_); go_big_quiet_op; refine hK_ _ ?_; clear hK_ K_)
  (refine z_quiet gtA (by rfl) (by rfl) (fun K_ hK_ => ?_); go_big_quiet_op; refine hK_ _ ?_; clear hK_ K_)
  (refine z_quiet gtA (by rfl) (by rfl) (fun K_ hK_ => ?_); go_big_quiet_op; refine hK_ _ ?_; clear hK_ K_)
  (refine z_quiet gtA (by rfl) (by rfl) (fun K_ hK_ => ?_); go_big_quiet_op; refine hK_ _ ?_; clear hK_ K_)
  (refine z_quiet gtA (by rfl) (by rfl) (fun K_ hK_ => ?_); go_big_quiet_op; refine hK_ _ ?_; clear hK_ K_)
  (refine z_last gtA (by rfl) (by rfl) (by rfl) (fun K_ hK_ => ?_); have HK_ := Lib.hid hK_; clear hK_; go_wp2_with (fail); refine HK_.out _ _ ?_; clear HK_)
  refine z_nil ?_
  clear hG_
  go_wp2_with fail
  go_end0
  rw [HW2.out]
  refine ⟨rfl, ?_, ?_⟩
  · refine KSt.below (w := ((w1.setCell ⟨g, 8, none⟩ (.int .i64 7)).setCell ⟨g, 7, none⟩ (.int .i64 (i : Nat))).setCell ⟨g, 8, none⟩ (.int .i64 ((8 : Nat) : Int))) ⟨_, h1'', by simp; omega, ?_, ?_⟩ (bdrew1 (brefl _))
    · rw [show ((i :: ks).take 8).length = 8 by simp [hl]]
      have : (arr2.set 7 (i : Nat)).take 8 = arr.drop 1 ++ [(i : Int)] := by
        rw [HA2.out]
        match arr, h1 with
        | [a0, a1, a2, a3, a4, a5, a6, a7], _ => rfl
      rw [this]
      have h7 : arr = ks.reverse.map (fun (k : Nat) => (k : Int)) := by rw [← h3, List.take_of_length_le (by omega)]
      rw [h7]
      match ks, hl with
      | [a0, a1, a2, a3, a4, a5, a6, a7], _ => rfl
    · rw [show ((i :: ks).take 8).length = 8 by simp [hl]]
      exact HH4.out
  · exact (((HK1.out.set hB HH1.out ⟨rfl, rfl⟩ _).set hB HH2.out ⟨rfl, rfl⟩ _).set hB HH3.out ⟨rfl, rfl⟩ _).trans (KeepC.of (bdrew1 (brefl _)) (by have := (Array.getElem?_eq_some_iff.1 HH1.out).1; simp; omega))
end Go.Proofs.Ytaladlaffglkeaa
end
section

/- stack: the act of Run. Conditions: a subtable, a line, places, and what is kept, in memory; sizes. -/
namespace Go.Proofs.Ytaladlaffglkeaa
open Go.RowKit Go.Lib

/-- What the act sees: the line, the subtable, the boxes that tell them, what is kept, and the places. -/
structure QIn (L Bt gt : Nat) (bs : List UInt8) (rs : List RP) (S B Bl gl : Nat) (al : Option Addr) (cl : Nat) (l : List (Int × Int)) (g3 g4 g5 g6 gk Bp gp : Nat) (d cr : Bool) (a : Option Addr) (c : Nat) (x : QX) (w : World) : Prop where
  line : GIs Bl gl al cl l w
  tab : QIs L Bt gt bs rs S w
  b3 : w.heap[g3]? = some (.cells #[.pointer (some ⟨gl, 0, none⟩)] 38 (0, 0))
  b4 : w.heap[g4]? = some (.cells #[.pointer (some ⟨gt, 0, none⟩)] 73 (0, 0))
  b5 : w.heap[g5]? = some (.cells #[.pointer (some ⟨gp, 0, none⟩)] 77 (0, 0))
  b6 : w.heap[g6]? = some (.cells #[.bool cr] 4 (0, 0))
  pl : QPl Bp gk gp d a c x w
  size : B ≤ w.heap.size
section
variable {L Bt gt : Nat} {bs : List UInt8} {rs : List RP} {S B Bl gl : Nat} {al : Option Addr} {cl : Nat} {l : List (Int × Int)} {g3 g4 g5 g6 gk Bp gp : Nat} {d cr : Bool} {a : Option Addr} {c : Nat} {x y : QX} {w w' : World}
theorem QIn.below (h : QIn L Bt gt bs rs S B Bl gl al cl l g3 g4 g5 g6 gk Bp gp d cr a c x w) (hb : Below w.heap.size w w') : QIn L Bt gt bs rs S B Bl gl al cl l g3 g4 g5 g6 gk Bp gp d cr a c x w' :=
  ⟨h.line.below hb, h.tab.below hb, (hb.block _ (Array.getElem?_eq_some_iff.1 h.b3).1).trans h.b3, (hb.block _ (Array.getElem?_eq_some_iff.1 h.b4).1).trans h.b4, (hb.block _ (Array.getElem?_eq_some_iff.1 h.b5).1).trans h.b5, (hb.block _ (Array.getElem?_eq_some_iff.1 h.b6).1).trans h.b6, h.pl.below hb, Nat.le_trans h.size hb.size⟩
theorem QIn.keep (h : QIn L Bt gt bs rs S B Bl gl al cl l g3 g4 g5 g6 gk Bp gp d cr a c x w) (hk : KeepC B (ownKT gk gp (a.map (·.block))) w w') (hL : L ≤ B) (hp : QPl Bp gk gp d a c y w') : QIn L Bt gt bs rs S B Bl gl al cl l g3 g4 g5 g6 gk Bp gp d cr a c y w' :=
  ⟨⟨(hk.kept _ _ _ _ h.line.hd (ownKT_no (by decide) (by decide) (by decide) _)).trans h.line.hd, hk.owns h.line.row (ownKT_no (by decide) (by decide) (by decide))⟩, h.tab.keep hk hL (notM_KT _ _ _) (ownKT_no (by decide) (by decide) (by decide)) (ownKT_no (by decide) (by decide) (by decide)), (hk.kept _ _ _ _ h.b3 (ownKT_no (by decide) (by decide) (by decide) _)).trans h.b3, (hk.kept _ _ _ _ h.b4 (ownKT_no (by decide) (by decide) (by decide) _)).trans h.b4, (hk.kept _ _ _ _ h.b5 (ownKT_no (by decide) (by decide) (by decide) _)).trans h.b5, (hk.kept _ _ _ _ h.b6 (ownKT_no (by decide) (by decide) (by decide) _)).trans h.b6, hp, Nat.le_trans h.size hk.size⟩
theorem QIn.put (h : QIn L Bt gt bs rs S B Bl gl al cl l g3 g4 g5 g6 gk Bp gp d cr a c x w) (hk : KeepC B (ownK1 gk) w w') (hL : L ≤ B) {ks : List Nat} (hs : KSt gk ks w') : QIn L Bt gt bs rs S B Bl gl al cl l g3 g4 g5 g6 gk Bp gp d cr a c (ks, x.2) w' :=
  h.keep hk.ofK1 hL ⟨hs, h.pl.pl.keepQ hk (fun k h => absurd h.2 (by decide)) (fun k h => absurd h.2 (by decide)), h.pl.in32⟩
end
theorem kpush_any (B g : Nat) (ks : List Nat) (i : Nat) (w : World) (h : KSt g ks w) (hB : B ≤ g) :
    Calls Try.prog 82 #[.pointer (some ⟨g, 0, none⟩), .int .i64 (i : Nat)] w fun e w' => e = .returned (.tuple #[]) ∧ KSt g ((i :: ks).take 8) w' ∧ KeepC B (ownK1 g) w w' := by
  have h8 : ks.length ≤ 8 := by obtain ⟨_, _, h, _⟩ := h; exact h
  by_cases hl : ks.length < 8
  · rw [List.take_of_length_le (by simp only [List.length_cons]; omega)]
    exact kpush_few B g ks i w h hB hl
  · exact kpush_full B g ks i w h hB (by omega)
set_option maxRecDepth 100000 in
set_option maxHeartbeats 6400000 in
theorem qdo_any (L Bt gt : Nat) (bs : List UInt8) (rs : List RP) (S B Bl gl : Nat) (al : Option Addr) (cl : Nat) (l : List (Int × Int)) (g3 g4 g5 g6 gk gp : Nat) (d cr : Bool) (a : Option Addr) (c : Nat) (x : QX) (z : Nat) (e : Ent) (w : World)
    (h : QIn L Bt gt bs rs S B Bl gl al cl l g3 g4 g5 g6 gk B gp d cr a c x w) (hL : L ≤ B) (hBk : B ≤ gk) (hF : e.2.1 ≤ 65535) (hA : e.2.2.1 ≠ 65535 → GoodV (bs.drop (num bs 16 4)) e.2.2.1) (hA6 : e.2.2.1 ≤ 65535) :
    Calls Try.prog 80 #[.int .i64 (z : Nat), entV4 e, .pointer (some ⟨gk, 0, none⟩), .pointer (some ⟨g3, 0, none⟩), .pointer (some ⟨g4, 0, none⟩), .pointer (some ⟨g5, 0, none⟩), .pointer (some ⟨g6, 0, none⟩)] w fun r w' => r = .returned (.tuple #[]) ∧ QIn L Bt gt bs rs S B Bl gl al cl l g3 g4 g5 g6 gk B gp d cr a c (actT (bs.drop (num bs 16 4)) d cr l.length x z e).1 w' ∧ KeepC B (ownKT gk gp (a.map (·.block))) w w' := by
  have hAC := allocC
  have hAF := allocF
  obtain ⟨e0, F, A, Bw⟩ := e
  obtain ⟨ks, pl⟩ := x
  simp only [entV4] at hF hA hA6 ⊢
  obtain ⟨W, hW⟩ : ∃ W, W = w.alloc (.cells #[.int .i64 (e0 : Nat), .int .i64 (F : Nat), .int .i64 (A : Nat), .int .i64 (Bw : Nat)] 88) := ⟨_, rfl⟩
  have hbW : Below w.heap.size w W := by rw [hW]; exact balloc (brefl w) _
  have xe : W.heap[w.heap.size]? = some (.cells #[.int .i64 (e0 : Nat), .int .i64 (F : Nat), .int .i64 (A : Nat), .int .i64 (Bw : Nat)] 88 (0, 0)) := by rw [hW]; exact (heap_push _ _ _).trans (if_pos rfl)
  have HK := Lib.hid (KeepC.of (B := B) (own := ownKT gk gp (a.map (·.block))) hbW h.size)
  have HI := Lib.hid (h.below hbW)
  have q3w := cell_of_heap h.b3 0
  simp only [List.getElem?_toArray, List.getElem?_cons_zero] at q3w
  have l3w := cell_lt q3w
  simp only at l3w
  have HXE := Lib.hid xe
  have HA := Lib.hid hA
  -- what is kept ahead of the push
  obtain ⟨ks1, hks1⟩ : ∃ k, k = if F / 8192 % 2 = 1 then [] else ks := ⟨_, rfl⟩
  obtain ⟨ks2, hks2⟩ : ∃ k, k = keepT l.length ks z F := ⟨_, rfl⟩
  have HKS1 := Lib.hid hks1
  have HKS2 := Lib.hid hks2
  have hks3 : ks2 = if z < l.length ∧ F / 32768 % 2 = 1 then (z :: ks1).take 8 else ks1 := by rw [hks2, hks1]; rfl
  have HKS3 := Lib.hid hks3
  have hin : inG l (z : Nat) = decide (z < l.length) := by unfold inG; simp
  have HAT := Lib.hid (fun V (hV : GIs Bl gl al cl l V) => hin ▸ gat_any Bl gl al cl l V hV (z : Nat))
  obtain ⟨p, hp⟩ : ∃ p, p = atG l (z : Nat) := ⟨_, rfl⟩
  rw [← hp] at HAT
  obtain ⟨p1, p2⟩ := p
  simp only [glyphA] at HAT
  clear xe h hA hin hp
  have CR : (bits .and .i64 (F : Int) 8192 = 8192 ∧ ks1 = []) ∨ (bits .and .i64 (F : Int) 8192 = 0 ∧ ks1 = ks) := by
    by_cases hR : F / 2 ^ 13 % 2 = 1
    · exact .inl ⟨flag_yes F 13 hF (by decide) 8192 rfl hR, by rw [hks1]; exact if_pos hR⟩
    · exact .inr ⟨flag_no F 13 hF (by decide) 8192 rfl hR, by rw [hks1]; exact if_neg hR⟩
  have CP : (decide (z < l.length) = true ∧ bits .and .i64 (F : Int) 32768 = 32768 ∧ ks2 = (z :: ks1).take 8) ∨ (decide (z < l.length) = true ∧ bits .and .i64 (F : Int) 32768 = 0 ∧ ks2 = ks1) ∨ (decide (z < l.length) = false ∧ ks2 = ks1) := by
    by_cases hz : z < l.length
    · by_cases hR : F / 2 ^ 15 % 2 = 1
      · exact .inl ⟨decide_eq_true hz, flag_yes F 15 hF (by decide) 32768 rfl hR, by rw [hks3]; exact if_pos ⟨hz, hR⟩⟩
      · exact .inr (.inl ⟨decide_eq_true hz, flag_no F 15 hF (by decide) 32768 rfl hR, by rw [hks3]; exact if_neg fun h => hR h.2⟩)
    · exact .inr (.inr ⟨decide_eq_false hz, by rw [hks3]; exact if_neg fun h => hz h.1⟩)
  obtain ⟨Y, hY⟩ : ∃ Y, Y = (actT (bs.drop (num bs 16 4)) d cr l.length (ks, pl) z (e0, F, A, Bw)).1 := ⟨_, rfl⟩
  have CA : (((A : Int) != 65535) = false ∧ Y = (ks2, pl)) ∨ (((A : Int) != 65535) = true ∧ A ≠ 65535 ∧ Y = moveS (bs.drop (num bs 16 4)) d cr ks2 pl A) := by
    unfold actT at hY
    simp only at hY
    rw [← hks2] at hY
    by_cases hA : A = 65535
    · rw [if_pos hA] at hY
      exact .inl ⟨by simp; omega, hY⟩
    · rw [if_neg hA] at hY
      exact .inr ⟨by simp; omega, hA, hY⟩
  rw [← hY]
  clear hY hks1 hks2 hks3 HKS1 HKS2 HKS3
  have hbk : B ≤ W.heap.size := HI.out.size
  rcases CR with ⟨dR, eR⟩ | ⟨dR, eR⟩
  case' inl =>
    go_enter Try.func80, Try.ntmps80
    go_wp2_with fail
    rw [← hW]
    clear hW
    refine (kclear_any B gk ks W HI.out.pl.st hBk).mono ?_
    rintro e W1 ⟨rfl, hst, hk⟩
    have HI1 := Lib.hid (eR ▸ HI.out.put hk hL hst)
    have HK1 := Lib.hid (HK.out.trans hk.ofK1)
    have HX1 := Lib.hid ((hk.kept _ _ _ _ HXE.out (fun h => absurd h.2 (by decide))).trans HXE.out)
    have q31 := cell_of_heap HI1.out.b3 0
    simp only [List.getElem?_toArray, List.getElem?_cons_zero] at q31
    have l31 := cell_lt q31
    simp only at l31
    clear hst hk
    go_wp2_with fail
  case' inr =>
    go_enter Try.func80, Try.ntmps80
    go_wp2_with fail
    rw [← hW]
    clear hW
    obtain ⟨W1, hW1⟩ : ∃ W1, W1 = W := ⟨_, rfl⟩
    have HI1 := Lib.hid (eR ▸ HI.out)
    have HK1 := HK
    have HX1 := HXE
    rw [← hW1] at HI1 HK1 HX1 ⊢
    clear hW1
  all_goals
    clear q3w l3w eR dR
    refine (HAT.out W1 HI1.out.line).mono ?_
    rintro e w2 ⟨rfl, hb2⟩
    have hzb := hb2.size
    have HI2 := Lib.hid (HI1.out.below hb2)
    have HX2 := Lib.hid ((hb2.block _ (Array.getElem?_eq_some_iff.1 HX1.out).1).trans HX1.out)
    have q8 := fun o => cell_of_heap HX2.out o
    have l8 := (Array.getElem?_eq_some_iff.1 HX2.out).1
    obtain ⟨V, hV⟩ : ∃ V, V = w2.alloc (Obj.cells #[.int .i64 p1, .int .i64 p2] 117) := ⟨_, rfl⟩
    have hbV : Below w2.heap.size w2 V := by rw [hV]; exact balloc (brefl w2) _
    have hzV := hbV.size
    have HIV := Lib.hid (HI2.out.below hbV)
    have HKV := Lib.hid (HK1.out.trans (KeepC.of (own := ownKT gk gp (a.map (·.block))) (hb2.trans (hbV.mono hzb)) HI1.out.size))
    have HXV := Lib.hid ((hbV.block _ l8).trans HX2.out)
    have q9 := fun o => cell_of_heap HXV.out o
    have l9 := (Array.getElem?_eq_some_iff.1 HXV.out).1
    clear HI1 HK1 HX1 hb2
    rcases CP with ⟨dZ, dP, eP⟩ | hCP
    case' inl =>
      rw [dZ]
      go_wp2_with fail
      rw [← hV]
      refine (kpush_any B gk ks1 z V HIV.out.pl.st hBk).mono ?_
      rintro e W3 ⟨rfl, hst, hk⟩
      have HI3 := Lib.hid (eP ▸ HIV.out.put hk hL hst)
      have HK3 := Lib.hid (HKV.out.trans hk.ofK1)
      have hx3 := (hk.kept _ _ _ _ HXV.out (fun h => absurd h.2 (by decide))).trans HXV.out
      have q7 := fun o => cell_of_heap hx3 o
      have l7 := (Array.getElem?_eq_some_iff.1 hx3).1
      have q4 := cell_of_heap HI3.out.b4 0
      have q5 := cell_of_heap HI3.out.b5 0
      have q6 := cell_of_heap HI3.out.b6 0
      simp only [List.getElem?_toArray, List.getElem?_cons_zero] at q4 q5 q6
      have l4 := cell_lt q4
      have l5 := cell_lt q5
      have l6 := cell_lt q6
      simp only at l4 l5 l6
      clear hst hk hx3 q8 l8 q9 l9 hV
      rcases CA with ⟨dA, eA⟩ | ⟨dA, hA, eA⟩
      · go_wp2_with fail
        go_end0
        exact ⟨rfl, by rw [eA]; exact HI3.out, HK3.out⟩
      · go_wp2_with fail
        refine (move_any L Bt gt bs rs S B gk gp d cr a c (ks2, pl) A W3 HI3.out.tab hL HI3.out.pl HI3.out.size hBk (HA.out hA)).mono ?_
        rintro e W4 ⟨rfl, hp4, hk4⟩
        have HI4 := Lib.hid (HI3.out.keep hk4 hL hp4)
        have HK4 := Lib.hid (HK3.out.trans hk4)
        clear hp4 hk4
        go_wp2_with fail
        go_end0
        exact ⟨rfl, by rw [eA]; exact HI4.out, HK4.out⟩
    case' inr =>
      have q4 := cell_of_heap HI2.out.b4 0
      have q5 := cell_of_heap HI2.out.b5 0
      have q6 := cell_of_heap HI2.out.b6 0
      simp only [List.getElem?_toArray, List.getElem?_cons_zero] at q4 q5 q6
      have l4 := cell_lt q4
      have l5 := cell_lt q5
      have l6 := cell_lt q6
      simp only at l4 l5 l6
      have HE2 := Lib.hid (show ks2 = ks1 from hCP.elim (fun h => h.2.2) (fun h => h.2))
      rcases hCP with ⟨dZ, dP, _⟩ | ⟨dZ, _⟩
      all_goals
        rw [dZ]
        rcases CA with ⟨dA, eA⟩ | ⟨dA, hA, eA⟩
        · go_wp2_with fail
          go_end0
          rw [← hV]
          exact ⟨rfl, by rw [eA, HE2.out]; exact HIV.out, HKV.out⟩
        · go_wp2_with fail
          rw [← hV]
          refine (move_any L Bt gt bs rs S B gk gp d cr a c (ks1, pl) A V HIV.out.tab hL HIV.out.pl HIV.out.size hBk (HA.out hA)).mono ?_
          rintro e W4 ⟨rfl, hp4, hk4⟩
          have HI4 := Lib.hid (HIV.out.keep hk4 hL hp4)
          have HK4 := Lib.hid (HKV.out.trans hk4)
          clear hp4 hk4
          go_wp2_with fail
          go_end0
          exact ⟨rfl, by rw [eA, HE2.out]; exact HI4.out, HK4.out⟩
end Go.Proofs.Ytaladlaffglkeaa
end
section

/- stack.Run: what such a subtable does to places. Conditions: a subtable, a line and places in memory; sizes. -/
namespace Go.Proofs.Ytaladlaffglkeaa
open Go.RowKit Go.Lib

structure QSee (L Bt gt : Nat) (bs : List UInt8) (rs : List RP) (S B Bl gl : Nat) (al : Option Addr) (cl : Nat) (l : List (Int × Int)) (g3 g4 g5 g6 gk gp : Nat) (d cr : Bool) (a : Option Addr) (c gx : Nat) (x : QX) (w : World) : Prop where
  inv : QIn L Bt gt bs rs S B Bl gl al cl l g3 g4 g5 g6 gk B gp d cr a c x w
  fn : w.heap[gx]? = some (.cells #[.func (.func 80) #[] #[.pointer (some ⟨gk, 0, none⟩), .pointer (some ⟨g3, 0, none⟩), .pointer (some ⟨g4, 0, none⟩), .pointer (some ⟨g5, 0, none⟩), .pointer (some ⟨g6, 0, none⟩)]] 141 (0, 0))
theorem QSee.below {L Bt gt : Nat} {bs : List UInt8} {rs : List RP} {S B Bl gl : Nat} {al : Option Addr} {cl : Nat} {l : List (Int × Int)} {g3 g4 g5 g6 gk gp : Nat} {d cr : Bool} {a : Option Addr} {c gx : Nat} {x : QX} {w w' : World} (h : QSee L Bt gt bs rs S B Bl gl al cl l g3 g4 g5 g6 gk gp d cr a c gx x w) (hb : Below w.heap.size w w') : QSee L Bt gt bs rs S B Bl gl al cl l g3 g4 g5 g6 gk gp d cr a c gx x w' :=
  ⟨h.inv.below hb, (hb.block gx (Array.getElem?_eq_some_iff.1 h.fn).1).trans h.fn⟩
set_option maxRecDepth 100000 in
set_option maxHeartbeats 1600000 in
theorem qplain_any (L Bt gt : Nat) (bs : List UInt8) (rs : List RP) (S B Bl gl : Nat) (al : Option Addr) (cl : Nat) (l : List (Int × Int)) (g3 g4 g5 g6 gk gp : Nat) (d cr : Bool) (a : Option Addr) (c gx : Nat) (x : QX) (z : Nat) (e : Ent) (w : World) (h : QSee L Bt gt bs rs S B Bl gl al cl l g3 g4 g5 g6 gk gp d cr a c gx x w) (hL : L ≤ B) (hBk : B ≤ gk) (hF : e.2.1 ≤ 65535) (hA : e.2.2.1 ≠ 65535 → GoodV (bs.drop (num bs 16 4)) e.2.2.1) (hA6 : e.2.2.1 ≤ 65535) (hz : z ≤ 900000000) :
    Calls Try.prog 107 #[.int .i64 (z : Nat), entV4 e, .pointer (some ⟨gx, 0, none⟩)] w fun r w' => r = .returned (.tuple #[.int .i64 (actT (bs.drop (num bs 16 4)) d cr l.length x z e).2.1, .int .i64 (actT (bs.drop (num bs 16 4)) d cr l.length x z e).2.2]) ∧ QSee L Bt gt bs rs S B Bl gl al cl l g3 g4 g5 g6 gk gp d cr a c gx (actT (bs.drop (num bs 16 4)) d cr l.length x z e).1 w' ∧ KeepC B (ownKT gk gp (a.map (·.block))) w w' := by
  have hAC := allocC
  have hAF := allocF
  have hN := fn_nilC
  have hX := h.fn
  have hxl := (Array.getElem?_eq_some_iff.1 hX).1
  have cx := cell_of_heap hX 0
  simp only [List.getElem?_toArray, List.getElem?_cons_zero] at cx
  have hBw := h.inv.size
  have HD := Lib.hid (fun (o : Array Value) => qdo_any L Bt gt bs rs S B Bl gl al cl l g3 g4 g5 g6 gk gp d cr a c x z e (w.alloc (.cells o 88)) (h.inv.below (balloc (brefl w) _)) hL hBk hF hA hA6)
  have HX := Lib.hid (fun (o : Array Value) W (hk : KeepC B (ownKT gk gp (a.map (·.block))) (w.alloc (.cells o 88)) W) => (hk.kept _ _ _ _ (((balloc (brefl w) (.cells o 88)).block _ hxl).trans hX) (ownKT_no (by decide) (by decide) (by decide) _)).trans (((balloc (brefl w) (.cells o 88)).block _ hxl).trans hX))
  have HK := Lib.hid (fun (o : Array Value) => KeepC.of (B := B) (own := ownKT gk gp (a.map (·.block))) (balloc (brefl w) (.cells o 88)) hBw)
  have hr : (actT (bs.drop (num bs 16 4)) d cr l.length x z e).2 = ((z : Int), (z : Int) + 1) := rfl
  obtain ⟨e0, F, e2, e3⟩ := e
  generalize actT (bs.drop (num bs 16 4)) d cr l.length x z (e0, F, e2, e3) = R at *
  obtain ⟨R1, R2⟩ := R
  simp only at hr
  subst hr
  simp only [entV4] at HD ⊢
  clear h hX hF hA hA6
  go_enter Try.func107, Try.ntmps107
  go_wp2_with (go_at_call 80; (with_reducible refine (HD.out _).mono ?_); rintro r w1 ⟨rfl, hr, hk⟩; have HR := Lib.hid hr; have HX1 := Lib.hid (HX.out _ _ hk); have HK1 := Lib.hid ((HK.out _).trans hk); clear hr hk)
  refine bodyPost_ret (v := .tuple #[.int .i64 (z : Nat), .int .i64 ((z : Int) + 1)]) (by simp [results, Try.results107, go_sem]) rfl ?_
  exact ⟨rfl, ⟨HR.out, HX1.out⟩, HK1.out⟩
theorem ktplainf_any (fn : Fn) (first cap : Array Value) (w : World) :
    Calls Try.prog 58 #[.func fn first cap] w fun e w' => e = .returned (.func (.func 107) #[] #[.pointer (some ⟨w.heap.size, 0, none⟩)]) ∧ w' = w.alloc (.cells #[.func fn first cap] 141) := by
  go_enter Try.func58, Try.ntmps58
  go_wp2_with fail
  go_ret
  exact ⟨rfl, rfl⟩
/-- What Run changes that was there. -/
def ownPl (gp : Nat) (bp : Option Nat) (k t : Nat) : Prop := (k = gp ∧ t = 172) ∨ (bp = some k ∧ t = 84)
theorem KeepC.oldKT {gk gp : Nat} {bp : Option Nat} {B : Nat} {w w' : World} (h : KeepC B (ownKT gk gp bp) w w') (hg : w.heap.size ≤ gk) : KeepC B (ownPl gp bp) w w' :=
  ⟨h.below, h.size, fun k cs t fz hk ho => h.kept k cs t fz hk fun hs => by
    rcases hs with ⟨rfl, _⟩ | hs
    · have := (Array.getElem?_eq_some_iff.1 hk).1
      omega
    · exact ho hs⟩
def ownKTG (_ t : Nat) : Prop := t = 175 ∨ t = 172 ∨ t = 84
theorem ownKT.g {gk gp : Nat} {bp : Option Nat} {k t : Nat} (h : ownKT gk gp bp k t) : ownKTG k t := h.imp And.right fun h => h.imp And.right And.right
def zeroK : Array Value := #[.int .i64 0, .int .i64 0, .int .i64 0, .int .i64 0, .int .i64 0, .int .i64 0, .int .i64 0, .int .i64 0, .int .i64 0]
set_option maxRecDepth 100000 in
set_option maxHeartbeats 3200000 in
theorem qrun_any (L Bt gt : Nat) (bs : List UInt8) (glyphs : Nat) (rs : List RP) (S B Bl gl : Nat) (al : Option Addr) (cl : Nat) (l : List (Int × Int)) (gp : Nat) (d cr : Bool) (a : Option Addr) (c : Nat) (pl : List Pl) (w : World)
    (hT : QIs L Bt gt bs rs S w) (hok : QOk bs glyphs rs S) (hg1 : 1 ≤ glyphs) (hg2 : glyphs ≤ 65535) (hL : L ≤ B)
    (hG : GIs Bl gl al cl l w) (hP : PlIs B gp d a c pl w) (hi : In32 pl) (hB : B ≤ w.heap.size) (hids : IdsOk l) (hl : l.length ≤ 1000000) :
    Calls Try.prog 33 #[.pointer (some ⟨gt, 0, none⟩), .pointer (some ⟨gl, 0, none⟩), .pointer (some ⟨gp, 0, none⟩), .bool cr] w fun e w' => e = .returned (.int .i64 ((stackD bs rs (bs.drop (num bs 16 4)) d cr l pl).2.2 : Nat)) ∧ PlIs B gp d a c (stackD bs rs (bs.drop (num bs 16 4)) d cr l pl).1.2 w' ∧ KeepC B (ownPl gp (a.map (·.block))) w w' := by
  have hAC := allocC
  have hAF := allocF
  go_enter Try.func33, Try.ntmps33
  go_wp2_with fail
  obtain ⟨W, hW⟩ : ∃ W, W = ((((w.alloc (Obj.cells #[.pointer (some ⟨gt, 0, none⟩)] 73)).alloc (Obj.cells #[.pointer (some ⟨gl, 0, none⟩)] 38)).alloc (Obj.cells #[.pointer (some ⟨gp, 0, none⟩)] 77)).alloc (Obj.cells #[.bool cr] 4)).alloc (Obj.cells zeroK 175) := ⟨_, rfl⟩
  have hbW : Below w.heap.size w W := by rw [hW]; exact balloc (balloc (balloc (balloc (balloc (brefl w) _) _) _) _) _
  have hzW : W.heap.size = w.heap.size + 1 + 1 + 1 + 1 + 1 := by rw [hW]; simp
  have h2 : W.heap[w.heap.size]? = some (.cells #[.pointer (some ⟨gt, 0, none⟩)] 73 (0, 0)) := by
    rw [hW, heap_push, if_neg (by simp only [World.size_alloc]; omega), heap_push, if_neg (by simp only [World.size_alloc]; omega), heap_push, if_neg (by simp only [World.size_alloc]; omega), heap_push, if_neg (by simp only [World.size_alloc]; omega), heap_push, if_pos rfl]
  have h3 : W.heap[w.heap.size + 1]? = some (.cells #[.pointer (some ⟨gl, 0, none⟩)] 38 (0, 0)) := by
    rw [hW, heap_push, if_neg (by simp only [World.size_alloc]; omega), heap_push, if_neg (by simp only [World.size_alloc]; omega), heap_push, if_neg (by simp only [World.size_alloc]; omega), heap_push, if_pos (by simp only [World.size_alloc])]
  have h4 : W.heap[w.heap.size + 1 + 1]? = some (.cells #[.pointer (some ⟨gp, 0, none⟩)] 77 (0, 0)) := by
    rw [hW, heap_push, if_neg (by simp only [World.size_alloc]; omega), heap_push, if_neg (by simp only [World.size_alloc]; omega), heap_push, if_pos (by simp only [World.size_alloc])]
  have h5 : W.heap[w.heap.size + 1 + 1 + 1]? = some (.cells #[.bool cr] 4 (0, 0)) := by
    rw [hW, heap_push, if_neg (by simp only [World.size_alloc]; omega), heap_push, if_pos (by simp only [World.size_alloc])]
  have h6 : W.heap[w.heap.size + 1 + 1 + 1 + 1]? = some (.cells zeroK 175 (0, 0)) := by
    rw [hW, heap_push, if_pos (by simp only [World.size_alloc])]
  have hI : QIn L Bt gt bs rs S B Bl gl al cl l (w.heap.size + 1) w.heap.size (w.heap.size + 1 + 1) (w.heap.size + 1 + 1 + 1) (w.heap.size + 1 + 1 + 1 + 1) B gp d cr a c ([], pl) W := ⟨hG.below hbW, hT.below hbW, h3, h2, h4, h5, ⟨⟨List.replicate 8 0, rfl, Nat.zero_le _, rfl, h6⟩, hP.below hbW, hi⟩, by omega⟩
  obtain ⟨g, ab, cb, e1, e2, _, _, _⟩ := hT.is
  have ht := (hbW.block gt (Array.getElem?_eq_some_iff.1 e1).1).trans e1
  unfold zeroK at hW
  rw [← hW]
  have hsee : QSee L Bt gt bs rs S B Bl gl al cl l (w.heap.size + 1) w.heap.size (w.heap.size + 1 + 1) (w.heap.size + 1 + 1 + 1) (w.heap.size + 1 + 1 + 1 + 1) gp d cr a c W.heap.size ([], pl) (W.alloc (.cells #[.func (.func 80) #[] #[.pointer (some ⟨w.heap.size + 1 + 1 + 1 + 1, 0, none⟩), .pointer (some ⟨w.heap.size + 1, 0, none⟩), .pointer (some ⟨w.heap.size, 0, none⟩), .pointer (some ⟨w.heap.size + 1 + 1, 0, none⟩), .pointer (some ⟨w.heap.size + 1 + 1 + 1, 0, none⟩)]] 141)).drew :=
    ⟨hI.below (bdrew1 (balloc (brefl W) _)), by show (W.alloc _).heap[W.heap.size]? = _; rw [heap_push]; exact if_pos rfl⟩
  have hbX : Below w.heap.size w (W.alloc (.cells #[.func (.func 80) #[] #[.pointer (some ⟨w.heap.size + 1 + 1 + 1 + 1, 0, none⟩), .pointer (some ⟨w.heap.size + 1, 0, none⟩), .pointer (some ⟨w.heap.size, 0, none⟩), .pointer (some ⟨w.heap.size + 1 + 1, 0, none⟩), .pointer (some ⟨w.heap.size + 1 + 1 + 1, 0, none⟩)]] 141)).drew := hbW.trans ((bdrew1 (balloc (brefl W) _)).mono hbW.size)
  have hS : S ≤ 65536 := hok.mok.least.least 65536 ⟨by decide, needS_le bs 1 _⟩
  have hfit := hok.mok.lk.fit hg2 (.inl rfl)
  have hrun := drunE_any (X := QX) (fun _ => l) (QSee L Bt gt bs rs S B Bl gl al cl l (w.heap.size + 1) w.heap.size (w.heap.size + 1 + 1) (w.heap.size + 1 + 1 + 1) (w.heap.size + 1 + 1 + 1 + 1) gp d cr a c W.heap.size) (actT (bs.drop (num bs 16 4)) d cr l.length) (ownKT (w.heap.size + 1 + 1 + 1 + 1) gp (a.map (·.block))) 1 Bt g bs 1 glyphs rs S B Bl gl W.heap.size ([], pl) _ (e2.below hbX) hS hok.mok hg1 hfit (notM_KT _ _ _) (Nat.le_trans hB hbX.size) hsee (fun x V V' h hb => h.below hb) (fun x V h => ⟨al, cl, h.inv.line⟩) (fun x V h => hids) l.length rfl hl (by omega) (fun x z e => ⟨by simp [actT]; omega, by simp [actT]⟩)
    (fun x V z e h hk hz hsc _ hF hA6 _ => by
      obtain ⟨s, c, hs, hc, he⟩ := hsc
      have hgd := hok.good _ (ent_in hs hc)
      refine qplain_any L Bt gt bs rs S B Bl gl al cl l _ _ _ _ _ gp d cr a _ _ x z e V h hL (by omega) hF ?_ hA6 (by omega)
      rw [he]
      exact hgd)
  change Calls _ _ _ _ (fun e w' => e = .returned (.tuple #[.int .i64 ((stackD bs rs (bs.drop (num bs 16 4)) d cr l pl).2.1 : Nat), .int .i64 ((stackD bs rs (bs.drop (num bs 16 4)) d cr l pl).2.2 : Nat)]) ∧ QSee L Bt gt bs rs S B Bl gl al cl l (w.heap.size + 1) w.heap.size (w.heap.size + 1 + 1) (w.heap.size + 1 + 1 + 1) (w.heap.size + 1 + 1 + 1 + 1) gp d cr a c W.heap.size (stackD bs rs (bs.drop (num bs 16 4)) d cr l pl).1 w' ∧ KeepC B (ownKT (w.heap.size + 1 + 1 + 1 + 1) gp (a.map (·.block))) _ w') at hrun
  obtain ⟨R, hR⟩ : ∃ R, R = stackD bs rs (bs.drop (num bs 16 4)) d cr l pl := ⟨_, rfl⟩
  rw [← hR] at hrun
  have HR := Lib.hid hR
  clear hR
  have HRUN := Lib.hid hrun
  have HKX := Lib.hid (KeepC.of (B := B) (own := ownKT (w.heap.size + 1 + 1 + 1 + 1) gp (a.map (·.block))) hbX hB)
  obtain ⟨n, hn⟩ : ∃ n, n = bs.length := ⟨_, rfl⟩
  rw [← hn] at ht
  have hgk : w.heap.size ≤ w.heap.size + 1 + 1 + 1 + 1 := by omega
  clear hn hzW hW hI h4 h5 h6 hsee hbX hrun hok hfit hG hids hT e1 e2 hP
  refine wp_region_tree (.step 0 (.step 1 (.step 2 (.step 3 (.step 4 (.step 5 (.step 6 (.step 7 (.step 8 (.step 9 (.step 10 (.step 11 (.step 12 .nil))))))))))))) (by kernel_rfl) (by kernel_rfl) (by kernel_rfl) (by kernel_rfl) (by intro _ _ d_ _ _ h_; cases d_ <;> first | exact h_ | (dsimp +zetaDelta only at h_ ⊢; exact h_)) (fun w' => ∃ p : KepP (ownKTG) W, w' = p.val) (kepP_start _ _) ?_
  have hK0_ := fun (p : KepP (ownKTG) W) (o : Nat) => p.is.cell ht (by first | (intro h_; exact absurd h_.1 (by decide)) | (intro h_; exact h_.2 rfl) | (intro h_; rcases h_ with h_ | h_ | h_ <;> exact absurd h_ (by decide)) | (intro h_; rcases h_ with h_ | h_ <;> exact absurd h_ (by decide))) o
  have hK1_ := fun (p : KepP (ownKTG) W) (o : Nat) => p.is.cell h2 (by first | (intro h_; exact absurd h_.1 (by decide)) | (intro h_; exact h_.2 rfl) | (intro h_; rcases h_ with h_ | h_ | h_ <;> exact absurd h_ (by decide)) | (intro h_; rcases h_ with h_ | h_ <;> exact absurd h_ (by decide))) o
  have hK2_ := fun (p : KepP (ownKTG) W) (o : Nat) => p.is.cell h3 (by first | (intro h_; exact absurd h_.1 (by decide)) | (intro h_; exact h_.2 rfl) | (intro h_; rcases h_ with h_ | h_ | h_ <;> exact absurd h_ (by decide)) | (intro h_; rcases h_ with h_ | h_ <;> exact absurd h_ (by decide))) o
  (refine tree_quiet gtA (by rfl) (by rfl) (fun K_ hK_ => ?_); go_big_quiet_op; refine hK_ _ ?_; clear hK_ K_)
  (refine tree_quiet gtA (by rfl) (by rfl) (fun K_ hK_ => ?_); go_big_quiet_op; refine hK_ _ ?_; clear hK_ K_)
  (refine tree_quiet gtA (by rfl) (by rfl) (fun K_ hK_ => ?_); go_big_quiet_op; refine hK_ _ ?_; clear hK_ K_)
  (refine tree_quiet gtA (by rfl) (by rfl) (fun K_ hK_ => ?_); go_big_quiet_op; refine hK_ _ ?_; clear hK_ K_)
  (refine tree_quiet gtA (by rfl) (by rfl) (fun K_ hK_ => ?_); go_big_quiet_op; refine hK_ _ ?_; clear hK_ K_)
  (refine tree_quiet gtA (by rfl) (by rfl) (fun K_ hK_ => ?_); go_big_quiet_op; refine hK_ _ ?_; clear hK_ K_)
  (refine tree_run gtA (by rfl) (by rfl) (fun K_ hK_ => ?_); have HK_ := Lib.hid hK_; clear hK_; go_wp2_with (first | (go_at_call 58; (with_reducible refine (ktplainf_any _ _ _ _).mono ?_); rintro e w5 ⟨rfl, rfl⟩; have hko4 : KeptO ownKTG W (W.drew.alloc (.cells #[.func (.func 80) #[] #[.pointer (some ⟨w.heap.size + 1 + 1 + 1 + 1, 0, none⟩), .pointer (some ⟨w.heap.size + 1, 0, none⟩), .pointer (some ⟨w.heap.size, 0, none⟩), .pointer (some ⟨w.heap.size + 1 + 1, 0, none⟩), .pointer (some ⟨w.heap.size + 1 + 1 + 1, 0, none⟩)]] 141)) := KeptO.below (balloc (bdrew1 (brefl W)) _); have hko5 : KeptO ownKTG W (W.alloc (.cells #[.func (.func 80) #[] #[.pointer (some ⟨w.heap.size + 1 + 1 + 1 + 1, 0, none⟩), .pointer (some ⟨w.heap.size + 1, 0, none⟩), .pointer (some ⟨w.heap.size, 0, none⟩), .pointer (some ⟨w.heap.size + 1 + 1, 0, none⟩), .pointer (some ⟨w.heap.size + 1 + 1 + 1, 0, none⟩)]] 141)).drew := KeptO.below (bdrew1 (balloc (brefl W) _))) | (go_at_call 57; (with_reducible refine HRUN.out.mono ?_); rintro e w7 ⟨rfl, hx7, hk7⟩; have HX7 := Lib.hid hx7; have HK7 := Lib.hid (HKX.out.trans hk7); have hko7 : KeptO ownKTG W w7 := hko5.trans ⟨hk7.size, fun k cs t fz hk ho => hk7.kept k cs t fz hk (fun h => ho h.g)⟩; clear hx7 hk7)); refine HK_.out _ _ (kepP_ofA) ?_; clear HK_)
  (refine tree_run gtA (by rfl) (by rfl) (fun K_ hK_ => ?_); have HK_ := Lib.hid hK_; clear hK_; go_wp2_with (first | (go_at_call 58; (with_reducible refine (ktplainf_any _ _ _ _).mono ?_); rintro e w5 ⟨rfl, rfl⟩; have hko4 : KeptO ownKTG W (W.drew.alloc (.cells #[.func (.func 80) #[] #[.pointer (some ⟨w.heap.size + 1 + 1 + 1 + 1, 0, none⟩), .pointer (some ⟨w.heap.size + 1, 0, none⟩), .pointer (some ⟨w.heap.size, 0, none⟩), .pointer (some ⟨w.heap.size + 1 + 1, 0, none⟩), .pointer (some ⟨w.heap.size + 1 + 1 + 1, 0, none⟩)]] 141)) := KeptO.below (balloc (bdrew1 (brefl W)) _); have hko5 : KeptO ownKTG W (W.alloc (.cells #[.func (.func 80) #[] #[.pointer (some ⟨w.heap.size + 1 + 1 + 1 + 1, 0, none⟩), .pointer (some ⟨w.heap.size + 1, 0, none⟩), .pointer (some ⟨w.heap.size, 0, none⟩), .pointer (some ⟨w.heap.size + 1 + 1, 0, none⟩), .pointer (some ⟨w.heap.size + 1 + 1 + 1, 0, none⟩)]] 141)).drew := KeptO.below (bdrew1 (balloc (brefl W) _))) | (go_at_call 57; (with_reducible refine HRUN.out.mono ?_); rintro e w7 ⟨rfl, hx7, hk7⟩; have HX7 := Lib.hid hx7; have HK7 := Lib.hid (HKX.out.trans hk7); have hko7 : KeptO ownKTG W w7 := hko5.trans ⟨hk7.size, fun k cs t fz hk ho => hk7.kept k cs t fz hk (fun h => ho h.g)⟩; clear hx7 hk7)); refine HK_.out _ _ (kepP_ofA) ?_; clear HK_)
  (refine tree_quiet gtA (by rfl) (by rfl) (fun K_ hK_ => ?_); go_big_quiet_op; refine hK_ _ ?_; clear hK_ K_)
  (refine tree_quiet gtA (by rfl) (by rfl) (fun K_ hK_ => ?_); go_big_quiet_op; refine hK_ _ ?_; clear hK_ K_)
  (refine tree_quiet gtA (by rfl) (by rfl) (fun K_ hK_ => ?_); go_big_quiet_op; refine hK_ _ ?_; clear hK_ K_)
  (refine tree_quiet gtA (by rfl) (by rfl) (fun K_ hK_ => ?_); go_big_quiet_op; refine hK_ _ ?_; clear hK_ K_)
  (refine tree_quiet gtA (by rfl) (by rfl) (fun K_ hK_ => ?_); go_big_quiet_op; refine hK_ _ ?_; clear hK_ K_)
  refine tree_nil ?_
  clear hK0_ hK1_ hK2_
  go_wp2_with fail
  go_ret
  rw [← HR.out]
  exact ⟨rfl, HX7.out.inv.pl.pl, HK7.out.oldKT hgk⟩
end Go.Proofs.Ytaladlaffglkeaa
end
section

/- What law 23 asks first: two glyphs. No condition. -/
namespace Go.Proofs.Ytaladlaffglkeaa
open Go.RowKit Go.Lib

theorem planQ23_wf : ∀ e ∈ planQ23.ents, wfI e.1 ∧ wfI e.2.1 ∧ wfI e.2.2.1 ∧ wfI e.2.2.2 := by
  intro e he
  simp only [planQ23, List.mem_cons, List.not_mem_nil, or_false] at he
  rcases he with rfl | rfl | rfl <;> · unfold wfI; decide
theorem writeQ23 (aC aR aE aL : Option Addr) (rv : List Value) (cC cR cE cL : Nat) (vs : List Int) (n : Nat) (hn : vs.length = n) (hn1 : n ≤ 1000) (h16 : ∀ x ∈ vs, -32768 ≤ x ∧ x ≤ 32767) (w : World) (h : PlanHas w planQ23 aC aR rv aE) (hL : Has w aL (i16V vs)) :
    Calls Try.prog 30 #[.agg #[.slice aC 2 cC, .slice aR 2 cR, .slice aE 3 cE, .int .u8 2, .slice aL n cL]] w fun e w' => ∃ a' c', e = .returned (.slice a' (72 + 2 * n) c') ∧ w'.ownsRow w.heap.size 5 1 (.slice a' (72 + 2 * n) c') (72 + 2 * n) (bytesV (stackB planQ23 vs)) ∧ Below w.heap.size w w' := by
  have := write23_any planQ23 aC aR aE rv cC cR cE aL n cL vs w h (by decide) (by decide) (by decide) planQ23_wf hL hn hn1 h16
  rw [stackS_length vs, hn] at this
  refine this.mono ?_
  rintro e w' ⟨a', c', h1, h2, _, _, _, h6⟩
  exact ⟨a', c', h1, h2, h6⟩
set_option maxRecDepth 100000 in
set_option maxHeartbeats 6400000 in
theorem speaks23_any (w : World) : Calls Try.prog 27 #[] w fun e w' => e = .returned (.bool true) ∧ Below w.heap.size w w' := by
  have hAC := allocC
  have hAF := allocF
  have hEQ := eqPn
  have e01 : newG [0, 1] = [(0, 0), (1, 1)] := by rfl
  have ep : newP [100, 200] = [(100, 0, 0), (200, 0, 0)] := by decide
  go_enter Try.func27, Try.ntmps27
  go_wp2_with fail
  obtain ⟨w1, h1⟩ : ∃ w1, w1 = w.alloc (Obj.cells #[.int .u8 4, .int .u8 5] 5) := ⟨_, rfl⟩
  obtain ⟨w2, h2⟩ : ∃ w2, w2 = w1.alloc (Obj.cells #[.int .u8 0, .int .u8 0, .int .u8 0, .int .u8 0, .int .u8 1, .int .u8 2] 5) := ⟨_, rfl⟩
  obtain ⟨w3, h3⟩ : ∃ w3, w3 = w2.alloc (Obj.cells #[.int .u8 0, .int .u8 0, .int .u8 0, .int .u8 0, .int .u8 1, .int .u8 2] 5) := ⟨_, rfl⟩
  obtain ⟨w4, h4⟩ : ∃ w4, w4 = w3.alloc (Obj.cells #[.slice (some ⟨w.heap.size + 1, 0, none⟩) 6 6, .slice (some ⟨w.heap.size + 1 + 1, 0, none⟩) 6 6] 22) := ⟨_, rfl⟩
  obtain ⟨w5, h5⟩ : ∃ w5, w5 = w4.alloc (Obj.cells #[.int .i64 0, .int .i64 0, .int .i64 65535, .int .i64 0, .int .i64 0, .int .i64 32768, .int .i64 65535, .int .i64 0, .int .i64 0, .int .i64 32768, .int .i64 0, .int .i64 0] 88) := ⟨_, rfl⟩
  obtain ⟨w6, h6⟩ : ∃ w6, w6 = w5.alloc (Obj.cells #[.slice (some ⟨w.heap.size, 0, none⟩) 2 2, .slice (some ⟨w.heap.size + 1 + 1 + 1, 0, none⟩) 2 2, .slice (some ⟨w.heap.size + 1 + 1 + 1 + 1, 0, none⟩) 3 3, .int .u8 2] 51) := ⟨_, rfl⟩
  obtain ⟨w7, h7⟩ : ∃ w7, w7 = w6.alloc (Obj.cells #[.int .i16 (-20), .int .i16 31] 66) := ⟨_, rfl⟩
  have z1 : w1.heap.size = w.heap.size + 1 := by rw [h1, World.size_alloc]
  have b1 : Below w.heap.size w w1 := by rw [h1]; exact balloc (brefl w) _
  have z2 : w2.heap.size = w.heap.size + 1 + 1 := by rw [h2, World.size_alloc, z1]
  have b2 : Below w1.heap.size w1 w2 := by rw [h2]; exact balloc (brefl w1) _
  have z3 : w3.heap.size = w.heap.size + 1 + 1 + 1 := by rw [h3, World.size_alloc, z2]
  have b3 : Below w2.heap.size w2 w3 := by rw [h3]; exact balloc (brefl w2) _
  have z4 : w4.heap.size = w.heap.size + 1 + 1 + 1 + 1 := by rw [h4, World.size_alloc, z3]
  have b4 : Below w3.heap.size w3 w4 := by rw [h4]; exact balloc (brefl w3) _
  have z5 : w5.heap.size = w.heap.size + 1 + 1 + 1 + 1 + 1 := by rw [h5, World.size_alloc, z4]
  have b5 : Below w4.heap.size w4 w5 := by rw [h5]; exact balloc (brefl w4) _
  have z6 : w6.heap.size = w.heap.size + 1 + 1 + 1 + 1 + 1 + 1 := by rw [h6, World.size_alloc, z5]
  have b6 : Below w5.heap.size w5 w6 := by rw [h6]; exact balloc (brefl w5) _
  have z7 : w7.heap.size = w.heap.size + 1 + 1 + 1 + 1 + 1 + 1 + 1 := by rw [h7, World.size_alloc, z6]
  have b7 : Below w6.heap.size w6 w7 := by rw [h7]; exact balloc (brefl w6) _
  have t7 := brefl w7
  have t6 := bthen b7 t7
  have t5 := bthen b6 t6
  have t4 := bthen b5 t5
  have t3 := bthen b4 t4
  have t2 := bthen b3 t3
  have t1 := bthen b2 t2
  have t0 := bthen b1 t1
  have g1 := has_alloc w #[.int .u8 4, .int .u8 5] 5
  rw [← h1] at g1
  have g2 := has_alloc w1 #[.int .u8 0, .int .u8 0, .int .u8 0, .int .u8 0, .int .u8 1, .int .u8 2] 5
  rw [← h2, z1] at g2
  have g3 := has_alloc w2 #[.int .u8 0, .int .u8 0, .int .u8 0, .int .u8 0, .int .u8 1, .int .u8 2] 5
  rw [← h3, z2] at g3
  have g4 := has_alloc w3 #[.slice (some ⟨w.heap.size + 1, 0, none⟩) 6 6, .slice (some ⟨w.heap.size + 1 + 1, 0, none⟩) 6 6] 22
  rw [← h4, z3] at g4
  have g5 := has_alloc w4 #[.int .i64 0, .int .i64 0, .int .i64 65535, .int .i64 0, .int .i64 0, .int .i64 32768, .int .i64 65535, .int .i64 0, .int .i64 0, .int .i64 32768, .int .i64 0, .int .i64 0] 88
  rw [← h5, z4] at g5
  have g6 := has_alloc w5 #[.slice (some ⟨w.heap.size, 0, none⟩) 2 2, .slice (some ⟨w.heap.size + 1 + 1 + 1, 0, none⟩) 2 2, .slice (some ⟨w.heap.size + 1 + 1 + 1 + 1, 0, none⟩) 3 3, .int .u8 2] 51
  rw [← h6, z5] at g6
  have g7 := has_alloc w6 #[.int .i16 (-20), .int .i16 31] 66
  rw [← h7, z6] at g7
  have HP := Lib.hid (show PlanHas w7 planQ23 (some ⟨w.heap.size, 0, none⟩) (some ⟨w.heap.size + 1 + 1 + 1, 0, none⟩) [.slice (some ⟨w.heap.size + 1, 0, none⟩) 6 6, .slice (some ⟨w.heap.size + 1 + 1, 0, none⟩) 6 6] (some ⟨w.heap.size + 1 + 1 + 1 + 1, 0, none⟩) from ⟨g1.below t1, g4.below t4, rfl, fun i r hr => by
    match i, hr with
    | 0, hr => simp [planQ23] at hr; subst hr; exact ⟨_, 6, rfl, g2.below t2⟩
    | 1, hr => simp [planQ23] at hr; subst hr; exact ⟨_, 6, rfl, g3.below t3⟩
    | n + 2, hr => simp [planQ23] at hr, g5.below t5⟩)
  have HL := Lib.hid (show Has w7 (some ⟨w.heap.size + 1 + 1 + 1 + 1 + 1 + 1, 0, none⟩) (i16V [-20, 31]) from g7.below t7)
  have HB := Lib.hid t0
  rw [← h1, ← h2, ← h3, ← h4, ← h5, ← h6, ← h7]
  clear h1 b1 t1 g1 z1 h2 b2 t2 g2 z2 h3 b3 t3 g3 z3 h4 b4 t4 g4 z4 h5 b5 t5 g5 z5 h6 b6 t6 g6 z6 h7 b7 t7 g7 z7 t0
  have HW := Lib.hid (writeQ23 (some ⟨w.heap.size, 0, none⟩) (some ⟨w.heap.size + 1 + 1 + 1, 0, none⟩) (some ⟨w.heap.size + 1 + 1 + 1 + 1, 0, none⟩) (some ⟨w.heap.size + 1 + 1 + 1 + 1 + 1 + 1, 0, none⟩) _ 2 2 3 2 [-20, 31] 2 rfl (by decide) (by decide) w7 HP.out HL.out)
  refine HW.out.mono ?_
  rintro e wa ⟨a9, c9, rfl, ho9, hb9⟩
  have HH9 := Lib.hid (show Has wa a9 (bytesV bytesQ23) from has_of_owns ho9)
  have HB9 := Lib.hid (HB.out.trans (hb9.mono HB.out.size))
  clear ho9 hb9
  go_wp2_with (first
    | (go_at_call 29; (with_reducible refine (qread_some a9 76 c9 bytesQ23 9 9 rfl rsP 2 wa HH9.out bytesQ23_len (by decide) (by decide) (by decide) (okS23 9)).mono ?_); rintro e wb ⟨gt, rfl, hT, hb10⟩; have HT := Lib.hid hT; have HBb := Lib.hid (HB9.out.trans (hb10.mono HB9.out.size)); clear hT hb10)
    | (go_at_call 31; (refine (pnew_any 0 (some ⟨wb.heap.size, 0, none⟩) 2 2 [100, 200] (wb.alloc (.cells #[.int .i64 100, .int .i64 200] 3)) (has_alloc wb _ _) rfl (by decide)).mono ?_); rintro e wc ⟨gp, ap, cp, rfl, hP, hgp, hbc⟩; rw [ep] at hP; have hbB := (balloc (brefl wb) (.cells #[.int .i64 100, .int .i64 200] 3)).trans (hbc.mono (by simp)); have HTc := Lib.hid (HT.out.below hbB); have HBc := Lib.hid (HBb.out.trans (hbB.mono HBb.out.size)); have HPc := Lib.hid (hP.mono (show w.heap.size ≤ _ from by have := HBb.out.size; simp only [World.size_alloc]; omega)); clear hP hbc hbB hgp)
    | (go_at_call 15; (with_reducible refine (gnew_any (some ⟨wc.heap.size, 0, none⟩) 2 2 [0, 1] (wc.alloc (.cells #[.int .i64 0, .int .i64 1] 3)) (has_alloc wc _ _) rfl (by decide)).mono ?_); rintro e wd ⟨gl, a11, c11, rfl, hG, hgl, hb11⟩; rw [e01] at hG; have hb78 := (balloc (brefl wc) (.cells #[.int .i64 0, .int .i64 1] 3)).trans (hb11.mono (by simp)); have HTd := Lib.hid (HTc.out.below hb78); have HPd := Lib.hid (HPc.out.below hb78); have HBd := Lib.hid (HBc.out.trans (hb78.mono HBc.out.size)); have HGd := Lib.hid hG; clear hG hb11 hb78 hgl)
    | (go_at_call 33; (refine (qrun_any 0 _ gt bytesQ23 9 rsP 2 w.heap.size _ gl a11 c11 [(0, 0), (1, 1)] gp _ false ap cp [(100, 0, 0), (200, 0, 0)] wd HTd.out (okS23 9) (by decide) (by decide) (Nat.zero_le _) HGd.out HPd.out (by intro p hp; simp at hp; rcases hp with rfl | rfl <;> simp) HBd.out.size (by unfold IdsOk; decide) (by decide)).mono ?_); rw [show stackD bytesQ23 rsP (bytesQ23.drop (num bytesQ23 16 4)) (decide ((0 : Int) = 2)) false [(0, 0), (1, 1)] [(100, 0, 0), (200, 0, 0)] = runQ23 from rfl, runQ23_is.1, runQ23_is.2]; rintro e we ⟨rfl, hP, hk⟩; have HPe := Lib.hid hP; have HBe := Lib.hid (HBd.out.trans hk.below); clear hP hk)
    | (go_at_call 34; (with_reducible refine (pall_any w.heap.size gp _ ap cp _ we HPe.out (by decide)).mono ?_); rintro e wf ⟨a13, c13, rfl, ho, _, _, _, hb13⟩; have HHf := Lib.hid (has_of_owns ho); have HBf := Lib.hid (HBe.out.trans (hb13.mono HBe.out.size)); clear ho hb13)
    | (go_at_call 40; (refine (refSameP_any a13 (some ⟨wf.heap.size, 0, none⟩) 2 c13 2 2 [(130, 0, 0), (180, 0, 0)] [(130, 0, 0), (180, 0, 0)] (wf.alloc (.cells #[.int .i32 130, .int .i32 0, .int .i32 0, .int .i32 180, .int .i32 0, .int .i32 0] 84)) (HHf.out.below (balloc (brefl wf) _)) rfl (has_alloc wf #[.int .i32 130, .int .i32 0, .int .i32 0, .int .i32 180, .int .i32 0, .int .i32 0] 84) rfl (by decide) (by decide)).mono ?_); rintro e wg ⟨rfl, hb14⟩; rw [decide_eq_true rfl]; have HBg := Lib.hid (HBf.out.trans ((balloc (brefl wf) (.cells #[.int .i32 130, .int .i32 0, .int .i32 0, .int .i32 180, .int .i32 0, .int .i32 0] 84)).trans (hb14.mono (by simp)) |>.mono HBf.out.size)); clear hb14))
  go_ret
  exact ⟨rfl, HBg.out⟩
end Go.Proofs.Ytaladlaffglkeaa
end
section

/- Places of which one call changes others; a list of noughts that is made. No condition. -/
namespace Go.Proofs.Ytaladlaffglkeaa
open Go.RowKit Go.Lib

theorem made_ivK (n : Nat) : (madeCells (Value.int .i64 0).cells (n * 1)).toList = iv (List.replicate n 0) := by
  apply List.ext_getElem?
  intro j
  simp only [madeCells, Value.cells, iv]
  by_cases h : j < n
  · simp [h, Nat.mod_one]
  · simp [h]
end Go.Proofs.Ytaladlaffglkeaa
end
section

/- A line all of whose glyphs are kept, and of which the last ones move. No condition. -/
namespace Go.Proofs.Ytaladlaffglkeaa
open Go.RowKit Go.Lib

/-- The first n places, the last one at the head. -/
def dsc : Nat → List Nat
  | 0 => []
  | n + 1 => n :: dsc n
/-- The values: all even but the last one. -/
def vsK (k : Nat) : List Int := (List.range k).map fun i => 2 * ((i : Nat) : Int) + 2 + (if i + 1 = k then 1 else 0)
theorem vsK_length (k : Nat) : (vsK k).length = k := by simp [vsK]
theorem vsK_get {k i : Nat} (h : i < k) : (vsK k)[i]? = some (2 * ((i : Nat) : Int) + 2 + (if i + 1 = k then 1 else 0)) := by
  rw [vsK, List.getElem?_map, List.getElem?_range h]
  rfl
theorem vsK_in {k : Nat} (hk : k ≤ 100) : ∀ x ∈ vsK k, -32768 ≤ x ∧ x ≤ 32767 := by
  intro x hx
  simp only [vsK, List.mem_map, List.mem_range] at hx
  obtain ⟨i, hi, rfl⟩ := hx
  split <;> omega
def valsK (k : Nat) : List UInt8 := vals16 ((vsK k).map u16Z)
theorem valsK_num {k i : Nat} (h : i < k) (hk : k ≤ 100) : num (valsK k) (2 * i) 2 = 2 * i + 2 + (if i + 1 = k then 1 else 0) := by
  have := vals16_num ((vsK k).map u16Z) i (fun x hx => by simp only [List.mem_map] at hx; obtain ⟨z, _, rfl⟩ := hx; exact u16Z_le z) (by rw [List.length_map, vsK_length]; exact h)
  rw [valsK, this, List.getD_eq_getElem?_getD, List.getElem?_map, vsK_get h]
  show u16Z _ = _
  unfold u16Z
  split <;> omega
theorem zeroP_more {P : List Pl} {n : Nat} (h : P[n]? = some (0, 0, 0)) {v : Int} (hv : 0 ≤ v ∧ v ≤ 1000) : moreP P (n : Nat) v 0 0 = P.set n (v, 0, 0) := by
  rw [moreP_of h]
  have e1 : addZ 0 v = v := by unfold addZ; rw [Int.zero_add, clampZ_id (clampZ_in v), clampZ_id (by omega)]
  have e2 : addZ 0 0 = 0 := addZ_zero (by omega)
  simp only [e1, e2]
theorem moveK_zero {P : List Pl} {n k m : Nat} (h : P[n]? = some (0, 0, 0)) (hm : m < k) (hk : k ≤ 100) : moveK false false P n (num (valsK k) (2 * m) 2) = P.set n (2 * ((m : Nat) : Int) + 2, 0, 0) := by
  have hx := valsK_num hm hk
  have he : evenZ (num (valsK k) (2 * m) 2) = 2 * ((m : Nat) : Int) + 2 := by
    rw [hx]
    unfold evenZ s16
    split <;> split <;> omega
  unfold moveK
  rw [if_neg (by decide), he]
  exact zeroP_more h (by omega)
/-- What becomes of places that stand at nought. -/
theorem moveS_dsc (d : Nat) {k : Nat} (hk : k ≤ 100) : ∀ (n L m : Nat) (P : List Pl), m < k → (∀ i, i < n → P[i]? = some (0, 0, 0)) → ∀ i : Nat, (moveS (valsK k) false false ((dsc n).take L) P m).2[i]? = if i < n ∧ n - 1 - i < L ∧ m + (n - 1 - i) < k then some (2 * ((m + (n - 1 - i) : Nat) : Int) + 2, 0, 0) else P[i]? := by
  intro n
  induction n with
  | zero =>
    intro L m P hm h i
    rw [show (dsc 0).take L = [] by simp [dsc], if_neg (by omega)]
    rfl
  | succ n ih =>
    intro L m P hm h i
    cases L with
    | zero =>
      rw [List.take_zero, if_neg (by omega)]
      rfl
    | succ L =>
      have hn := h n (by omega)
      have hlt : n < P.length := (List.getElem?_eq_some_iff.1 hn).1
      have hx := valsK_num hm hk
      have hmv := moveK_zero hn hm hk
      rw [show (dsc (n + 1)).take (L + 1) = n :: (dsc n).take L from rfl, moveS]
      rw [hmv]
      by_cases ho : m + 1 = k
      · rw [if_pos (by rw [hx, if_pos ho]; omega)]
        show (P.set n _)[i]? = _
        rw [List.getElem?_set]
        by_cases hi : n = i
        · subst hi
          rw [if_pos rfl, if_pos hlt, if_pos (by omega), show m + (n + 1 - 1 - n) = m by omega]
        · rw [if_neg hi, if_neg (by omega)]
      · rw [if_neg (by rw [hx, if_neg ho]; omega)]
        rw [ih L (m + 1) (P.set n _) (by omega) (fun j hj => by rw [List.getElem?_set, if_neg (by omega)]; exact h j (by omega)) i]
        by_cases hi : n = i
        · subst hi
          rw [if_neg (by omega), List.getElem?_set, if_pos rfl, if_pos hlt, if_pos (by omega), show m + (n + 1 - 1 - n) = m by omega]
        · rw [List.getElem?_set, if_neg hi]
          by_cases hc : i < n ∧ n - 1 - i < L ∧ m + 1 + (n - 1 - i) < k
          · rw [if_pos hc, if_pos (by omega), show m + 1 + (n - 1 - i) = m + (n + 1 - 1 - i) by omega]
          · rw [if_neg hc, if_neg (by omega)]
theorem keepT_dsc {n j : Nat} (h : j < n) : keepT n ((dsc j).take 8) j 32768 = (dsc (j + 1)).take 8 := by
  unfold keepT
  rw [if_pos ⟨h, by decide⟩, if_neg (by decide)]
  show (j :: (dsc j).take 8).take 8 = (j :: dsc j).take 8
  rw [List.take_succ_cons, List.take_succ_cons, List.take_take]
  rfl
/-- A machine that keeps all glyphs, and moves at the last one. -/
theorem runK23 {bs : List UInt8} {rs : List RP} {vs : List UInt8} {n : Nat} {l : List (Int × Int)} {P : List Pl} (hn : 0 < n) (hlen : l.length = n)
    (h0 : enM bs 1 0 0 = (0, 0, 65535, 0)) (h4 : enM bs 1 0 4 = (0, 32768, 65535, 0)) (h5 : enM bs 1 0 5 = (0, 32768, 0, 0)) (hc4 : ∀ j, j < n - 1 → clD bs rs l j = 4) (hc5 : clD bs rs l (n - 1) = 5) :
    ∀ fu j, j ≤ n - 1 → n + 1 ≤ fu + j → ∃ ks, runD (fun (_ : QX) z => clD bs rs l z) (enM bs 1) (fun _ z => decide (l.length ≤ z)) (actT vs false false n) fu ((dsc j).take 8, P) 0 j 0 (j + 1) = ((ks, (moveS vs false false ((dsc n).take 8) P 0).2), n + 1, 0) := by
  intro fu
  induction fu with
  | zero => intro j h1 h2; omega
  | succ fu ih =>
    intro j h1 h2
    by_cases hj : j < n - 1
    · have hact : actT vs false false n ((dsc j).take 8, P) j (0, 32768, 65535, 0) = (((dsc (j + 1)).take 8, P), (j : Int), (j : Int) + 1) := by
        unfold actT
        simp only
        rw [if_pos trivial, keepT_dsc (by omega)]
      unfold runD
      simp only [hc4 j hj, h4, hact]
      rw [if_neg (by decide), if_neg (by simp; omega), show (max ((j : Int) + 1) 0).toNat = j + 1 from by omega]
      exact ih (j + 1) (by omega) (by omega)
    · obtain rfl : j = n - 1 := by omega
      obtain ⟨R, hR⟩ : ∃ R, R = moveS vs false false ((dsc n).take 8) P 0 := ⟨_, rfl⟩
      have hact : actT vs false false n ((dsc (n - 1)).take 8, P) (n - 1) (0, 32768, 0, 0) = (R, ((n - 1 : Nat) : Int), ((n - 1 : Nat) : Int) + 1) := by
        unfold actT
        simp only
        rw [if_neg (by decide), keepT_dsc (by omega), show n - 1 + 1 = n by omega, ← hR]
      obtain ⟨fv, rfl⟩ : ∃ fv, fu = fv + 1 := ⟨fu - 1, by omega⟩
      have hend : clD bs rs l n = 0 := by
        unfold clD
        rw [List.getElem?_eq_none (by omega)]
      have hact2 : (actT vs false false n R n (0, 0, 65535, 0)).1 = R := by
        unfold actT keepT
        simp only
        rw [if_pos trivial, if_neg (by omega), if_neg (by decide)]
      rw [← hR]
      unfold runD
      simp only [hc5, h5, hact]
      rw [if_neg (by decide), if_neg (by simp; omega), show (max (((n - 1 : Nat) : Int) + 1) 0).toNat = n from by omega, show n - 1 + 1 + 1 = n + 1 from by omega]
      unfold runD
      simp only [hend, h0]
      rw [if_neg (by decide), if_pos (by simp; omega), hact2]
      exact ⟨R.1, rfl⟩
def idsQ (n : Nat) : List Int := List.replicate (n - 1) 0 ++ [1]
theorem idsQ_length (n : Nat) (h : 0 < n) : (idsQ n).length = n := by simp [idsQ]; omega
theorem idsQ_get (n j : Nat) (hn : 0 < n) (h : j < n) : (idsQ n)[j]? = some (if j = n - 1 then 1 else 0) := by
  unfold idsQ
  by_cases e : j = n - 1
  · rw [if_pos e, List.getElem?_append_right (by simp; omega)]
    simp [e]
  · rw [if_neg e, List.getElem?_append_left (by simp; omega), List.getElem?_replicate, if_pos (by omega)]
theorem idsQ_set (n : Nat) (h : 0 < n) : (iv (List.replicate n 0)).set (n - 1) (.int .i64 1) = iv (idsQ n) := by
  obtain ⟨k, rfl⟩ : ∃ k, n = k + 1 := ⟨n - 1, by omega⟩
  simp [iv, idsQ, List.replicate_succ']
/-- What law 23 asks of long lines. -/
theorem stk_long (n k : Nat) (hn : 0 < n) (hk : 0 < k) (hk1 : k ≤ 100) : (stackD (stackB planQ23 (vsK k)) rsP ((stackB planQ23 (vsK k)).drop (num (stackB planQ23 (vsK k)) 16 4)) false false (newG (idsQ n)) (newP (List.replicate n 0))).2.2 = 0 ∧
    ∀ i, i < n → (stackD (stackB planQ23 (vsK k)) rsP ((stackB planQ23 (vsK k)).drop (num (stackB planQ23 (vsK k)) 16 4)) false false (newG (idsQ n)) (newP (List.replicate n 0))).1.2[i]? = some (if n - 1 - i < min k 8 then 2 * ((n - 1 - i : Nat) : Int) + 2 else 0, 0, 0) := by
  obtain ⟨h16, hd⟩ := stkAt (vsK k)
  rw [h16, hd]
  have hl : (newG (idsQ n)).length = n := by rw [newG_length, idsQ_length n hn]
  have hcl : ∀ j, j < n → clD (stackB planQ23 (vsK k)) rsP (newG (idsQ n)) j = if j = n - 1 then 5 else 4 := by
    intro j hj
    unfold clD
    rw [newG_get, idsQ_get n j hn hj]
    show classM (stackB planQ23 (vsK k)) rsP (if j = n - 1 then 1 else 0) = _
    rw [stkClass]
    by_cases e : j = n - 1
    · simp [e]
    · simp [e]
  have hM := stkM (vsK k)
  obtain ⟨ks, hr⟩ := runK23 (bs := stackB planQ23 (vsK k)) (rs := rsP) (vs := valsK k) (P := newP (List.replicate n 0)) hn hl (by have := hM 0 (by decide); simpa using this) (by have := hM 4 (by decide); simpa using this) (by have := hM 5 (by decide); simpa using this) (fun j hj => by rw [hcl j (by omega), if_neg (by omega)]) (by rw [hcl (n - 1) (by omega), if_pos rfl]) (2 * n + 128) 0 (by omega) (by omega)
  have he : stackD (stackB planQ23 (vsK k)) rsP (vals16 ((vsK k).map u16Z)) false false (newG (idsQ n)) (newP (List.replicate n 0)) = ((ks, (moveS (valsK k) false false ((dsc n).take 8) (newP (List.replicate n 0)) 0).2), n + 1, 0) := by
    rw [← hr]
    unfold stackD valsK
    rw [hl]
    rfl
  rw [he]
  refine ⟨rfl, fun i hi => ?_⟩
  have hz : ∀ i, i < n → (newP (List.replicate n 0))[i]? = some (0, 0, 0) := by
    intro i hi
    rw [newP, List.getElem?_map, List.getElem?_replicate, if_pos hi]
    rfl
  show (moveS (valsK k) false false ((dsc n).take 8) (newP (List.replicate n 0)) 0).2[i]? = _
  rw [moveS_dsc 0 hk1 n 8 0 _ hk hz i]
  by_cases hc : n - 1 - i < min k 8
  · rw [if_pos (by omega), if_pos hc, Nat.zero_add]
  · rw [if_neg (by omega), if_neg hc, hz i hi]
end Go.Proofs.Ytaladlaffglkeaa
end
