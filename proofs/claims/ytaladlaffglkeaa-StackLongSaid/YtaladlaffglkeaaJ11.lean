/- Joined from: MGet MRefR. -/
import Derived.Test.YtaladlaffglkeaaJ01
import Derived.Test.YtaladlaffglkeaaJ10
import Derived.Test.YtaladlaffglkeaaJ08
section

/- The contract of state.Take. Conditions: as many bytes as the slice says; glyphs from 1 to 65535, words from 0 to 2. The contract of state.Read. Conditions: as many bytes as the slice says. The contracts of a machine's calls: Classes, States, Entries, Step, Class. Conditions: a machine in memory, as its bytes tell it. -/
namespace Go.Proofs.Ytaladlaffglkeaa
open Go.RowKit Go.Lib

theorem TabIs.monoM {B B' g fmt : Nat} {ps : List PartL} {ns : List Nat} {w : World} (h : TabIs B g fmt ps ns w) (hB : B' ≤ B) : TabIs B' g fmt ps ns w := by
  obtain ⟨ap, cp, an, cn, h0, h1, h2⟩ := h.is
  exact ⟨ap, cp, an, cn, h0, owns_mono h1 hB, owns_mono h2 hB⟩
/-- A machine in memory, as the bytes tell it. -/
structure MIs (B g : Nat) (bs : List UInt8) (k : Nat) (rs : List RP) (S : Nat) (w : World) : Prop where
  is : ∃ gl fmt : Nat, MSt B g (num bs 0 4) (.pointer (some ⟨gl, 0, none⟩)) (entN bs) (bs.drop (num bs 12 4)) k S (needE bs S) w ∧ TabIs B gl fmt (tabR (bs.drop (num bs 4 4)) rs).1 (tabR (bs.drop (num bs 4 4)) rs).2 w
theorem MIs.below {B g : Nat} {bs : List UInt8} {k : Nat} {rs : List RP} {S : Nat} {w w' : World} (h : MIs B g bs k rs S w) (hb : Below w.heap.size w w') : MIs B g bs k rs S w' := by
  obtain ⟨gl, fmt, h1, h2⟩ := h.is
  exact ⟨gl, fmt, h1.below hb, h2.below hb⟩
def MTakeIs (bs : List UInt8) (glyphs k : Nat) (w : World) (e : Ending) (w' : World) : Prop :=
  ((∃ rs S g, MOk bs glyphs k rs S ∧ e = .returned (.pointer (some ⟨g, 0, none⟩)) ∧ MIs w.heap.size g bs k rs S w') ∨ ((∀ rs S, ¬ MOk bs glyphs k rs S) ∧ e = .panicked thrown)) ∧ Below w.heap.size w w'
theorem areWords_any (k : Nat) (hk : k ≤ 2) (z : Int) (hz : z = (k : Nat)) (w : World) : Calls Try.prog 132 #[.int .i64 z] w fun e w' => e = .returned (.bool true) ∧ Below w.heap.size w w' := by
  have : k = 0 ∨ k = 1 ∨ k = 2 := by omega
  rcases this with rfl | rfl | rfl <;> subst hz <;> (
    go_enter Try.func132, Try.ntmps132
    go_wp2_with fail
    go_ret
    exact ⟨rfl, brefl _⟩)
set_option maxRecDepth 100000 in
set_option maxHeartbeats 3200000 in
theorem mtake_any (a : Option Addr) (n c : Nat) (bs : List UInt8) (glyphs k : Nat) (zg zk : Int) (hzg : zg = (glyphs : Nat)) (hzk : zk = (k : Nat)) (w : World) (hh : Has w a (bytesV bs)) (hbl : bs.length = n) (hnc : n ≤ c) (hc : c ≤ maxLen) (hg1 : 1 ≤ glyphs) (hg2 : glyphs ≤ 65535) (hk : k ≤ 2) :
    Calls Try.prog 86 #[.agg #[.slice a n c], .int .i64 zg, .int .i64 zk] w (MTakeIs bs glyphs k w) := by
  have hAC := allocC
  have hAF := allocF
  subst hzg hzk
  have HH := Lib.hid hh
  have HL := Lib.hid hbl
  have HAW := Lib.hid (fun W => areWords_any k hk (k : Int) rfl W)
  have HUB := Lib.hid (fun (z : Int) (hz : ¬ (0 ≤ z ∧ z + 4 ≤ (n : Int))) W => u32_bad a n c z W hz hnc hc)
  have HU := Lib.hid (fun (j : Nat) (z : Int) (hz : z = (j : Nat)) (W : World) (hW : Below w.heap.size w W) (hj : j + 4 ≤ n) => u32_z a n c j z hz bs W (hh.below hW) hbl hj hnc hc)
  have HRS := Lib.hid (fun (j : Nat) (hj : j ≤ n) W => rest_ok a n c j W hj hnc hc)
  have HRB := Lib.hid (fun (j : Nat) (hj : n < j) W => rest_bad a n c (j : Nat) W (.inr (by omega)))
  clear hh hbl
  by_cases h4 : 4 ≤ n
  case neg =>
    have HNO := Lib.hid (show ∀ rs S, ¬ MOk bs glyphs k rs S from fun rs S ho => h4 (by have := ho.len; rw [HL.out] at this; omega))
    have HB1 := Lib.hid (HUB.out 0 (by omega))
    go_enter Try.func86, Try.ntmps86
    go_wp2_with (first | (go_at_call 132; (with_reducible refine (HAW.out _).mono ?_); rintro e w1 ⟨rfl, hb1⟩; have h1c := bc hb1; have h1f := bf hb1; have h1z := hb1.size; try simp only [World.size_alloc, World.size_drew] at h1z) | (go_at_call 94; refine (need_t _ (by rfl) _).mono ?_; rintro e w_ ⟨rfl, rfl⟩) | (go_at_call 88; (with_reducible refine (HB1.out _).mono ?_); rintro e w2 ⟨rfl, hb2⟩; have h2c := bc hb2; have h2f := bf hb2; have h2z := hb2.size; try simp only [World.size_alloc, World.size_drew] at h2z))
    exact ⟨rfl, .inr ⟨HNO.out, rfl⟩, blw⟩
  have HU0 := Lib.hid (fun W hW => HU.out 0 0 rfl W hW h4)
  have hP0 := num4_lt bs 0
  obtain ⟨C, hC⟩ : ∃ C, C = num bs 0 4 := ⟨_, rfl⟩
  rw [← hC] at HU0 hP0
  have HC := Lib.hid hC
  clear hC
  by_cases hcl : 4 ≤ C ∧ C ≤ 65535
  case neg =>
    have HNO := Lib.hid (show ∀ rs S, ¬ MOk bs glyphs k rs S from fun rs S ho => hcl (by have := ho.cls; rw [← HC.out] at this; exact this))
    by_cases hc4 : 4 ≤ C
    · have d1 : decide ((4 : Int) ≤ (C : Int)) = true := by simp; omega
      have d2 : decide ((C : Int) ≤ 65535) = false := by simp; omega
      clear hcl hc4
      go_enter Try.func86, Try.ntmps86
      go_wp2_with (first | (go_at_call 132; (with_reducible refine (HAW.out _).mono ?_); rintro e w1 ⟨rfl, hb1⟩; have h1c := bc hb1; have h1f := bf hb1; have h1z := hb1.size; try simp only [World.size_alloc, World.size_drew] at h1z) | (go_at_call 94; refine (need_t _ (by rfl) _).mono ?_; rintro e w_ ⟨rfl, rfl⟩) | (go_at_call 88; (with_reducible refine (HU0.out _ (by exact blw)).mono ?_); rintro e w2 ⟨rfl, hb2⟩; have h2c := bc hb2; have h2f := bf hb2; have h2z := hb2.size; try simp only [World.size_alloc, World.size_drew] at h2z) | (go_at_call 94; refine (need_f _ (by rfl) _).mono ?_; rintro e w_ ⟨rfl, rfl⟩))
      exact ⟨rfl, .inr ⟨HNO.out, rfl⟩, blw⟩
    · have d1 : decide ((4 : Int) ≤ (C : Int)) = false := by simp; omega
      clear hcl hc4
      go_enter Try.func86, Try.ntmps86
      go_wp2_with (first | (go_at_call 132; (with_reducible refine (HAW.out _).mono ?_); rintro e w1 ⟨rfl, hb1⟩; have h1c := bc hb1; have h1f := bf hb1; have h1z := hb1.size; try simp only [World.size_alloc, World.size_drew] at h1z) | (go_at_call 94; refine (need_t _ (by rfl) _).mono ?_; rintro e w_ ⟨rfl, rfl⟩) | (go_at_call 88; (with_reducible refine (HU0.out _ (by exact blw)).mono ?_); rintro e w2 ⟨rfl, hb2⟩; have h2c := bc hb2; have h2f := bf hb2; have h2z := hb2.size; try simp only [World.size_alloc, World.size_drew] at h2z) | (go_at_call 94; refine (need_f _ (by rfl) _).mono ?_; rintro e w_ ⟨rfl, rfl⟩))
      exact ⟨rfl, .inr ⟨HNO.out, rfl⟩, blw⟩
  obtain ⟨hC4, hC6⟩ := hcl
  have d1 : decide ((4 : Int) ≤ (C : Int)) = true := by simp; omega
  have d2 : decide ((C : Int) ≤ 65535) = true := by simp; omega
  go_enter Try.func86, Try.ntmps86
  go_wp2_with (first | (go_at_call 132; (with_reducible refine (HAW.out _).mono ?_); rintro e w1 ⟨rfl, hb1⟩; have h1c := bc hb1; have h1f := bf hb1; have h1z := hb1.size; try simp only [World.size_alloc, World.size_drew] at h1z) | (go_at_call 94; refine (need_t _ (by rfl) _).mono ?_; rintro e w_ ⟨rfl, rfl⟩) | (go_at_call 88; (with_reducible refine (HU0.out _ (by exact blw)).mono ?_); rintro e w2 ⟨rfl, hb2⟩; have h2c := bc hb2; have h2f := bf hb2; have h2z := hb2.size; try simp only [World.size_alloc, World.size_drew] at h2z))
  obtain ⟨V, hV⟩ : ∃ V, V = w2.alloc (Obj.cells #[.int .i64 (C : Nat), .pointer none, .slice none 0 0, .slice none 0 0] 224) := ⟨_, rfl⟩
  have hbV : Below w.heap.size w V := by rw [hV]; exact blw
  have z3 : V.heap[w.heap.size]? = some (.cells #[.slice a n c] 93 (0, 0)) := by
    rw [hV, heap_push, if_neg (by omega)]
    exact (hb2.block _ (by omega)).trans ((hb1.block _ (by simp)).trans (by rw [heap_push, if_pos rfl]))
  have zg : V.heap[w2.heap.size]? = some (.cells #[.int .i64 (C : Nat), .pointer none, .slice none 0 0, .slice none 0 0] 224 (0, 0)) := by rw [hV, heap_push, if_pos rfl]
  have hzV : V.heap.size = w2.heap.size + 1 := by rw [hV]; simp
  rw [← hV]
  have q3 := cell_of_heap z3 0
  simp only [List.getElem?_toArray, List.getElem?_cons_zero] at q3
  have HBV := Lib.hid hbV
  have HZ3 := Lib.hid z3
  have HZG := Lib.hid zg
  have hgg : w.heap.size < w2.heap.size ∧ w2.heap.size < V.heap.size := by omega
  have h3V : w.heap.size < V.heap.size := by omega
  have hgne : ¬ w.heap.size = w2.heap.size := by omega
  clear hV hbV z3 zg h1c h1f hb1 h2c h2f hb2 h2z h1z HAW HU0 d1 d2
  generalize w2.heap.size = g at *
  by_cases h8 : 8 ≤ n
  case neg =>
    have HNO := Lib.hid (show ∀ rs S, ¬ MOk bs glyphs k rs S from fun rs S ho => h8 (by have := ho.len; rw [HL.out] at this; omega))
    have HB1 := Lib.hid (HUB.out 4 (by omega))
    refine wp_region_tree (.step 0 (.step 1 (.step 2 (.step 5 (.step 3 (.step 4 (.step 6 (.step 7 (.step 8 (.step 9 .nil)))))))))) (by kernel_rfl) (by kernel_rfl) (by kernel_rfl) (by kernel_rfl) (by intro _ _ d_ _ _ h_; cases d_ <;> first | exact h_ | (dsimp +zetaDelta only at h_ ⊢; exact h_)) (fun w' => ∃ p : Wld V [g], w' = p.val) (wld_start _ _) ?_
    have hG_ := @wldC1 V g
    (refine tree_quiet gtA (by rfl) (by rfl) (fun K_ hK_ => ?_); go_big_quiet_op; refine hK_ _ ?_; clear hK_ K_)
    (refine tree_quiet gtA (by rfl) (by rfl) (fun K_ hK_ => ?_); go_big_quiet_op; refine hK_ _ ?_; clear hK_ K_)
    (refine tree_quiet gtA (by rfl) (by rfl) (fun K_ hK_ => ?_); go_big_quiet_op; refine hK_ _ ?_; clear hK_ K_)
    (refine tree_quiet gtA (by rfl) (by rfl) (fun K_ hK_ => ?_); go_big_quiet_op; refine hK_ _ ?_; clear hK_ K_)
    (refine tree_run gtA (by rfl) (by rfl) (fun K_ hK_ => ?_); have HK_ := Lib.hid hK_; clear hK_; go_wp2_with ((go_at_call 88; (with_reducible refine (HB1.out _).mono ?_); rintro e wa ⟨rfl, hba⟩; have hac := bc hba; have haf := bf hba; have haz := hba.size; try simp only [World.size_alloc, World.size_drew] at haz)); exact ⟨rfl, .inr ⟨HNO.out, rfl⟩, HBV.out.trans (Below.mono (w := V) (by exact blw) HBV.out.size)⟩)
  have HU4 := Lib.hid (fun W hW => HU.out 4 4 rfl W hW h8)
  have hP4 := num4_lt bs 4
  obtain ⟨P4, hP⟩ : ∃ P4, P4 = num bs 4 4 := ⟨_, rfl⟩
  rw [← hP] at HU4 hP4
  have HP4 := Lib.hid hP
  clear hP
  by_cases hf4 : P4 ≤ n
  case neg =>
    have HNO := Lib.hid (show ∀ rs S, ¬ MOk bs glyphs k rs S from fun rs S ho => hf4 (by have := ho.at_; rw [HL.out, ← HP4.out] at this; exact this))
    have HB1 := Lib.hid (HRB.out P4 (by omega))
    refine wp_region_tree (.step 0 (.step 1 (.step 2 (.step 5 (.step 3 (.step 4 (.step 6 (.step 7 (.step 8 (.step 9 .nil)))))))))) (by kernel_rfl) (by kernel_rfl) (by kernel_rfl) (by kernel_rfl) (by intro _ _ d_ _ _ h_; cases d_ <;> first | exact h_ | (dsimp +zetaDelta only at h_ ⊢; exact h_)) (fun w' => ∃ p : Wld V [g], w' = p.val) (wld_start _ _) ?_
    have hG_ := @wldC1 V g
    (refine tree_quiet gtA (by rfl) (by rfl) (fun K_ hK_ => ?_); go_big_quiet_op; refine hK_ _ ?_; clear hK_ K_)
    (refine tree_quiet gtA (by rfl) (by rfl) (fun K_ hK_ => ?_); go_big_quiet_op; refine hK_ _ ?_; clear hK_ K_)
    (refine tree_quiet gtA (by rfl) (by rfl) (fun K_ hK_ => ?_); go_big_quiet_op; refine hK_ _ ?_; clear hK_ K_)
    (refine tree_quiet gtA (by rfl) (by rfl) (fun K_ hK_ => ?_); go_big_quiet_op; refine hK_ _ ?_; clear hK_ K_)
    (refine tree_run gtA (by rfl) (by rfl) (fun K_ hK_ => ?_); have HK_ := Lib.hid hK_; clear hK_; go_wp2_with (first | (go_at_call 88; (with_reducible refine (HU4.out _ (HBV.out.trans (Below.mono (w := V) (by exact blw) HBV.out.size))).mono ?_); rintro e wa ⟨rfl, hba⟩; have hac := bc hba; have haf := bf hba; have haz := hba.size; try simp only [World.size_alloc, World.size_drew] at haz) | (go_at_call 87; (with_reducible refine (HB1.out _).mono ?_); rintro e wb ⟨rfl, hbb⟩; have hbc := bc hbb; have hbf := bf hbb; have hbz := hbb.size; try simp only [World.size_alloc, World.size_drew] at hbz)); refine HK_.out _ _ (wld_ofA) ?_; clear HK_)
    (refine tree_run gtA (by rfl) (by rfl) (fun K_ hK_ => ?_); have HK_ := Lib.hid hK_; clear hK_; go_wp2_with (first | (go_at_call 88; (with_reducible refine (HU4.out _ (HBV.out.trans (Below.mono (w := V) (by exact blw) HBV.out.size))).mono ?_); rintro e wa ⟨rfl, hba⟩; have hac := bc hba; have haf := bf hba; have haz := hba.size; try simp only [World.size_alloc, World.size_drew] at haz) | (go_at_call 87; (with_reducible refine (HB1.out _).mono ?_); rintro e wb ⟨rfl, hbb⟩; have hbc := bc hbb; have hbf := bf hbb; have hbz := hbb.size; try simp only [World.size_alloc, World.size_drew] at hbz)); exact ⟨rfl, .inr ⟨HNO.out, rfl⟩, HBV.out.trans (Below.mono (w := V) (by exact blw) HBV.out.size)⟩)
  have HR4 := Lib.hid (HRS.out P4 hf4)
  by_cases hlk : ∃ rs, LkOk (bs.drop P4) glyphs 2 rs
  case neg =>
    have HNO := Lib.hid (show ∀ rs S, ¬ MOk bs glyphs k rs S from fun rs S ho => hlk ⟨rs, by have := ho.lk; rw [← HP4.out] at this; exact this⟩)
    have HB1 := Lib.hid (fun W (hW : Below w.heap.size w W) => show Calls Try.prog 96 #[.agg #[.slice (adv a c P4) (n - P4) (c - P4)], .int .i64 (glyphs : Nat), .int .i64 2] W (fun e w' => e = .panicked thrown ∧ Below W.heap.size W w') from take_bad (adv a c P4) (n - P4) (c - P4) (bs.drop P4) glyphs 2 W (by have := (HH.out.below hW).adv c P4 (by rw [bytesV_length, HL.out]; exact hnc); rwa [bytesV_drop] at this) (by rw [List.length_drop, HL.out]) (by omega) (Nat.le_trans (Nat.sub_le _ _) hc) hg1 hg2 (.inl rfl) fun rs hr => hlk ⟨rs, hr⟩)
    refine wp_region_tree (.step 0 (.step 1 (.step 2 (.step 5 (.step 3 (.step 4 (.step 6 (.step 7 (.step 8 (.step 9 .nil)))))))))) (by kernel_rfl) (by kernel_rfl) (by kernel_rfl) (by kernel_rfl) (by intro _ _ d_ _ _ h_; cases d_ <;> first | exact h_ | (dsimp +zetaDelta only at h_ ⊢; exact h_)) (fun w' => ∃ p : Wld V [g], w' = p.val) (wld_start _ _) ?_
    have hG_ := @wldC1 V g
    (refine tree_quiet gtA (by rfl) (by rfl) (fun K_ hK_ => ?_); go_big_quiet_op; refine hK_ _ ?_; clear hK_ K_)
    (refine tree_quiet gtA (by rfl) (by rfl) (fun K_ hK_ => ?_); go_big_quiet_op; refine hK_ _ ?_; clear hK_ K_)
    (refine tree_quiet gtA (by rfl) (by rfl) (fun K_ hK_ => ?_); go_big_quiet_op; refine hK_ _ ?_; clear hK_ K_)
    (refine tree_quiet gtA (by rfl) (by rfl) (fun K_ hK_ => ?_); go_big_quiet_op; refine hK_ _ ?_; clear hK_ K_)
    (refine tree_run gtA (by rfl) (by rfl) (fun K_ hK_ => ?_); have HK_ := Lib.hid hK_; clear hK_; go_wp2_with (first | (go_at_call 88; (with_reducible refine (HU4.out _ (HBV.out.trans (Below.mono (w := V) (by exact blw) HBV.out.size))).mono ?_); rintro e wa ⟨rfl, hba⟩; have hac := bc hba; have haf := bf hba; have haz := hba.size; try simp only [World.size_alloc, World.size_drew] at haz) | (go_at_call 87; (with_reducible refine (HR4.out _).mono ?_); rintro e wb ⟨rfl, hbb⟩; have hbc := bc hbb; have hbf := bf hbb; have hbz := hbb.size; try simp only [World.size_alloc, World.size_drew] at hbz) | (go_at_call 96; (with_reducible refine (HB1.out _ (HBV.out.trans (Below.mono (w := V) (by exact blw) HBV.out.size))).mono ?_); rintro e wd ⟨rfl, hbd⟩; have hdc := bc hbd; have hdf := bf hbd; have hdz := hbd.size; try simp only [World.size_alloc, World.size_drew] at hdz)); refine HK_.out _ _ (wld_ofA) ?_; clear HK_)
    (refine tree_run gtA (by rfl) (by rfl) (fun K_ hK_ => ?_); have HK_ := Lib.hid hK_; clear hK_; go_wp2_with (first | (go_at_call 88; (with_reducible refine (HU4.out _ (HBV.out.trans (Below.mono (w := V) (by exact blw) HBV.out.size))).mono ?_); rintro e wa ⟨rfl, hba⟩; have hac := bc hba; have haf := bf hba; have haz := hba.size; try simp only [World.size_alloc, World.size_drew] at haz) | (go_at_call 87; (with_reducible refine (HR4.out _).mono ?_); rintro e wb ⟨rfl, hbb⟩; have hbc := bc hbb; have hbf := bf hbb; have hbz := hbb.size; try simp only [World.size_alloc, World.size_drew] at hbz) | (go_at_call 96; (with_reducible refine (HB1.out _ (HBV.out.trans (Below.mono (w := V) (by exact blw) HBV.out.size))).mono ?_); rintro e wd ⟨rfl, hbd⟩; have hdc := bc hbd; have hdf := bf hbd; have hdz := hbd.size; try simp only [World.size_alloc, World.size_drew] at hdz)); refine HK_.out _ _ (wld_ofA) ?_; clear HK_)
    (refine tree_run gtA (by rfl) (by rfl) (fun K_ hK_ => ?_); have HK_ := Lib.hid hK_; clear hK_; go_wp2_with (first | (go_at_call 88; (with_reducible refine (HU4.out _ (HBV.out.trans (Below.mono (w := V) (by exact blw) HBV.out.size))).mono ?_); rintro e wa ⟨rfl, hba⟩; have hac := bc hba; have haf := bf hba; have haz := hba.size; try simp only [World.size_alloc, World.size_drew] at haz) | (go_at_call 87; (with_reducible refine (HR4.out _).mono ?_); rintro e wb ⟨rfl, hbb⟩; have hbc := bc hbb; have hbf := bf hbb; have hbz := hbb.size; try simp only [World.size_alloc, World.size_drew] at hbz) | (go_at_call 96; (with_reducible refine (HB1.out _ (HBV.out.trans (Below.mono (w := V) (by exact blw) HBV.out.size))).mono ?_); rintro e wd ⟨rfl, hbd⟩; have hdc := bc hbd; have hdf := bf hbd; have hdz := hbd.size; try simp only [World.size_alloc, World.size_drew] at hdz)); exact ⟨rfl, .inr ⟨HNO.out, rfl⟩, HBV.out.trans (Below.mono (w := V) (by exact blw) HBV.out.size)⟩)
  obtain ⟨rs, hlk⟩ := hlk
  have HLK := Lib.hid hlk
  have HTK := Lib.hid (fun W (hW : Below w.heap.size w W) => show Calls Try.prog 96 #[.agg #[.slice (adv a c P4) (n - P4) (c - P4)], .int .i64 (glyphs : Nat), .int .i64 2] W (fun e w' => ∃ g, e = .returned (.pointer (some ⟨g, 0, none⟩)) ∧ TabIs W.heap.size g (num (bs.drop P4) 0 2) (tabR (bs.drop P4) rs).1 (tabR (bs.drop P4) rs).2 w' ∧ Below W.heap.size W w') from take_ok (adv a c P4) (n - P4) (c - P4) (bs.drop P4) glyphs 2 rs W (by have := (HH.out.below hW).adv c P4 (by rw [bytesV_length, HL.out]; exact hnc); rwa [bytesV_drop] at this) (by rw [List.length_drop, HL.out]) (by omega) (Nat.le_trans (Nat.sub_le _ _) hc) hg1 hg2 (.inl rfl) hlk)
  clear hlk
  refine wp_region_tree (.step 0 (.step 1 (.step 2 (.step 5 (.step 3 (.step 4 (.step 6 (.step 7 (.step 8 (.step 9 .nil)))))))))) (by kernel_rfl) (by kernel_rfl) (by kernel_rfl) (by kernel_rfl) (by intro _ _ d_ _ _ h_; cases d_ <;> first | exact h_ | (dsimp +zetaDelta only at h_ ⊢; exact h_)) (fun w' => ∃ p : Wld V [g], w' = p.val) (wld_start _ _) ?_
  have hG_ := @wldC1 V g
  (refine tree_quiet gtA (by rfl) (by rfl) (fun K_ hK_ => ?_); go_big_quiet_op; refine hK_ _ ?_; clear hK_ K_)
  (refine tree_quiet gtA (by rfl) (by rfl) (fun K_ hK_ => ?_); go_big_quiet_op; refine hK_ _ ?_; clear hK_ K_)
  (refine tree_quiet gtA (by rfl) (by rfl) (fun K_ hK_ => ?_); go_big_quiet_op; refine hK_ _ ?_; clear hK_ K_)
  (refine tree_quiet gtA (by rfl) (by rfl) (fun K_ hK_ => ?_); go_big_quiet_op; refine hK_ _ ?_; clear hK_ K_)
  (refine tree_run gtA (by rfl) (by rfl) (fun K_ hK_ => ?_); have HK_ := Lib.hid hK_; clear hK_; go_wp2_with (first | (go_at_call 88; (with_reducible refine (HU4.out _ (HBV.out.trans (Below.mono (w := V) (by exact blw) HBV.out.size))).mono ?_); rintro e wa ⟨rfl, hba⟩; have hac := bc hba; have haf := bf hba; have haz := hba.size; try simp only [World.size_alloc, World.size_drew] at haz) | (go_at_call 87; (with_reducible refine (HR4.out _).mono ?_); rintro e wb ⟨rfl, hbb⟩; have hbc := bc hbb; have hbf := bf hbb; have hbz := hbb.size; try simp only [World.size_alloc, World.size_drew] at hbz) | (go_at_call 96; (with_reducible refine (HTK.out _ (HBV.out.trans (Below.mono (w := V) (by exact blw) HBV.out.size))).mono ?_); rintro e wt ⟨gl, rfl, ht, hbt⟩; have hbtV : Below V.heap.size V wt := (by exact blw); have htg := (hbtV.block g hgg.2).trans HZG.out; have qg := fun o => cell_of_heap htg o; have fg := fun o => froz_of_heap htg o)); refine HK_.out _ _ (wld_ofA) ?_; clear HK_)
  (refine tree_run gtA (by rfl) (by rfl) (fun K_ hK_ => ?_); have HK_ := Lib.hid hK_; clear hK_; go_wp2_with (first | (go_at_call 88; (with_reducible refine (HU4.out _ (HBV.out.trans (Below.mono (w := V) (by exact blw) HBV.out.size))).mono ?_); rintro e wa ⟨rfl, hba⟩; have hac := bc hba; have haf := bf hba; have haz := hba.size; try simp only [World.size_alloc, World.size_drew] at haz) | (go_at_call 87; (with_reducible refine (HR4.out _).mono ?_); rintro e wb ⟨rfl, hbb⟩; have hbc := bc hbb; have hbf := bf hbb; have hbz := hbb.size; try simp only [World.size_alloc, World.size_drew] at hbz) | (go_at_call 96; (with_reducible refine (HTK.out _ (HBV.out.trans (Below.mono (w := V) (by exact blw) HBV.out.size))).mono ?_); rintro e wt ⟨gl, rfl, ht, hbt⟩; have hbtV : Below V.heap.size V wt := (by exact blw); have htg := (hbtV.block g hgg.2).trans HZG.out; have qg := fun o => cell_of_heap htg o; have fg := fun o => froz_of_heap htg o)); refine HK_.out _ _ (wld_ofA) ?_; clear HK_)
  (refine tree_run gtA (by rfl) (by rfl) (fun K_ hK_ => ?_); have HK_ := Lib.hid hK_; clear hK_; go_wp2_with (first | (go_at_call 88; (with_reducible refine (HU4.out _ (HBV.out.trans (Below.mono (w := V) (by exact blw) HBV.out.size))).mono ?_); rintro e wa ⟨rfl, hba⟩; have hac := bc hba; have haf := bf hba; have haz := hba.size; try simp only [World.size_alloc, World.size_drew] at haz) | (go_at_call 87; (with_reducible refine (HR4.out _).mono ?_); rintro e wb ⟨rfl, hbb⟩; have hbc := bc hbb; have hbf := bf hbb; have hbz := hbb.size; try simp only [World.size_alloc, World.size_drew] at hbz) | (go_at_call 96; (with_reducible refine (HTK.out _ (HBV.out.trans (Below.mono (w := V) (by exact blw) HBV.out.size))).mono ?_); rintro e wt ⟨gl, rfl, ht, hbt⟩; have hbtV : Below V.heap.size V wt := (by exact blw); have htg := (hbtV.block g hgg.2).trans HZG.out; have qg := fun o => cell_of_heap htg o; have fg := fun o => froz_of_heap htg o)); refine HK_.out _ _ (wld_ofA) ?_; clear HK_)
  (refine tree_quiet gtA (by rfl) (by rfl) (fun K_ hK_ => ?_); go_big_quiet_op; refine hK_ _ ?_; clear hK_ K_)
  (refine tree_quiet gtA (by rfl) (by rfl) (fun K_ hK_ => ?_); go_big_quiet_op; refine hK_ _ ?_; clear hK_ K_)
  (refine tree_run gtA (by rfl) (by rfl) (fun K_ hK_ => ?_); have HK_ := Lib.hid hK_; clear hK_; go_wp2_with (first | (go_at_call 88; (with_reducible refine (HU4.out _ (HBV.out.trans (Below.mono (w := V) (by exact blw) HBV.out.size))).mono ?_); rintro e wa ⟨rfl, hba⟩; have hac := bc hba; have haf := bf hba; have haz := hba.size; try simp only [World.size_alloc, World.size_drew] at haz) | (go_at_call 87; (with_reducible refine (HR4.out _).mono ?_); rintro e wb ⟨rfl, hbb⟩; have hbc := bc hbb; have hbf := bf hbb; have hbz := hbb.size; try simp only [World.size_alloc, World.size_drew] at hbz) | (go_at_call 96; (with_reducible refine (HTK.out _ (HBV.out.trans (Below.mono (w := V) (by exact blw) HBV.out.size))).mono ?_); rintro e wt ⟨gl, rfl, ht, hbt⟩; have hbtV : Below V.heap.size V wt := (by exact blw); have htg := (hbtV.block g hgg.2).trans HZG.out; have qg := fun o => cell_of_heap htg o; have fg := fun o => froz_of_heap htg o)); refine HK_.out _ _ (wld_ofA) ?_; clear HK_)
  refine tree_nil ?_
  clear hG_
  obtain ⟨U, hU⟩ : ∃ U, U = wt.setCell ⟨g, 1, none⟩ (.pointer (some ⟨gl, 0, none⟩)) := ⟨_, rfl⟩
  have hbU : Below w.heap.size w U := by rw [hU]; exact (HBV.out.trans (hbtV.mono (by omega))).setCell (p := ⟨g, 1, none⟩) (by show w.heap.size ≤ g; omega) _
  have u3 : U.heap[w.heap.size]? = some (.cells #[.slice a n c] 93 (0, 0)) := by rw [hU]; exact (set_heap_other _ (by omega)).trans ((hbtV.block _ h3V).trans HZ3.out)
  have uG : U.heap[g]? = some (.cells #[.int .i64 (C : Nat), .pointer (some ⟨gl, 0, none⟩), .slice none 0 0, .slice none 0 0] 224 (0, 0)) := by rw [hU]; exact set_heap_at _ htg
  have hwb : w.heap.size ≤ wb.heap.size := by have : wa.heap.size ≤ wb.heap.size := hbb.size; omega
  have UT := Lib.hid (show TabIs w.heap.size gl (num (bs.drop P4) 0 2) (tabR (bs.drop P4) rs).1 (tabR (bs.drop P4) rs).2 U from by rw [hU]; exact (ht.setOther htg (by decide) (by decide) (by decide) _).monoM hwb)
  have UM := Lib.hid (show MSt w.heap.size g C (.pointer (some ⟨gl, 0, none⟩)) (entN bs) (bs.drop (num bs 12 4)) k 0 0 U from ⟨none, 0, [], none, 0, uG, World.ownsRow_nil _ _ _ _, ⟨fun i v h => by simp at h⟩, World.ownsRow_nil _ _ _ _⟩)
  have hgU : w.heap.size < U.heap.size ∧ g < U.heap.size := ⟨(Array.getElem?_eq_some_iff.1 u3).1, (Array.getElem?_eq_some_iff.1 uG).1⟩
  have hwU : w.heap.size ≤ U.heap.size := by omega
  rw [← hU]
  have HBU := Lib.hid hbU
  have HU3 := Lib.hid u3
  have q3' := cell_of_heap u3 0
  simp only [List.getElem?_toArray, List.getElem?_cons_zero] at q3'
  clear hU hbU u3 uG hwb ht hbt hbtV htg qg fg hac haf haz hba hbc hbf hbz hbb q3 HTK HR4 HU4
  generalize (num (bs.drop P4) 0 2) = fmt at *
  go_wp2_with fail
  by_cases h12 : 12 ≤ n
  case neg =>
    have HNO := Lib.hid (show ∀ rs S, ¬ MOk bs glyphs k rs S from fun rs S ho => h12 (by have := ho.len; rw [HL.out] at this; omega))
    have HB1 := Lib.hid (HUB.out 8 (by omega))
    refine wp_region_tree (.step 0 (.step 1 (.step 2 (.step 5 (.step 6 (.step 9 (.step 3 (.step 4 (.step 7 (.step 8 (.step 10 .nil))))))))))) (by kernel_rfl) (by kernel_rfl) (by kernel_rfl) (by kernel_rfl) (by intro _ _ d_ _ _ h_; cases d_ <;> first | exact h_ | (dsimp +zetaDelta only at h_ ⊢; exact h_)) (fun w' => ∃ p : Wld U [], w' = p.val) (wld_start _ _) ?_
    have hG_ := @wldC U
    (refine tree_quiet gtA (by rfl) (by rfl) (fun K_ hK_ => ?_); go_big_quiet_op; refine hK_ _ ?_; clear hK_ K_)
    (refine tree_quiet gtA (by rfl) (by rfl) (fun K_ hK_ => ?_); go_big_quiet_op; refine hK_ _ ?_; clear hK_ K_)
    (refine tree_quiet gtA (by rfl) (by rfl) (fun K_ hK_ => ?_); go_big_quiet_op; refine hK_ _ ?_; clear hK_ K_)
    (refine tree_quiet gtA (by rfl) (by rfl) (fun K_ hK_ => ?_); go_big_quiet_op; refine hK_ _ ?_; clear hK_ K_)
    (refine tree_quiet gtA (by rfl) (by rfl) (fun K_ hK_ => ?_); go_big_quiet_op; refine hK_ _ ?_; clear hK_ K_)
    (refine tree_quiet gtA (by rfl) (by rfl) (fun K_ hK_ => ?_); go_big_quiet_op; refine hK_ _ ?_; clear hK_ K_)
    (refine tree_run gtA (by rfl) (by rfl) (fun K_ hK_ => ?_); have HK_ := Lib.hid hK_; clear hK_; go_wp2_with ((go_at_call 88; (with_reducible refine (HB1.out _).mono ?_); rintro e wa ⟨rfl, hba⟩; have hac := bc hba; have haf := bf hba; have haz := hba.size; try simp only [World.size_alloc, World.size_drew] at haz)); exact ⟨rfl, .inr ⟨HNO.out, rfl⟩, HBU.out.trans (Below.mono (w := U) (by exact blw) HBU.out.size)⟩)
  have HU8 := Lib.hid (fun W hW => HU.out 8 8 rfl W hW h12)
  have hP8 := num4_lt bs 8
  obtain ⟨P8, hP⟩ : ∃ P8, P8 = num bs 8 4 := ⟨_, rfl⟩
  rw [← hP] at HU8 hP8
  have HP8 := Lib.hid hP
  clear hP
  by_cases hf8 : P8 ≤ n
  case neg =>
    have HNO := Lib.hid (show ∀ rs S, ¬ MOk bs glyphs k rs S from fun rs S ho => hf8 (by have := ho.rows; rw [HL.out, ← HP8.out] at this; exact this))
    have HB1 := Lib.hid (HRB.out P8 (by omega))
    refine wp_region_tree (.step 0 (.step 1 (.step 2 (.step 5 (.step 6 (.step 9 (.step 3 (.step 4 (.step 7 (.step 8 (.step 10 .nil))))))))))) (by kernel_rfl) (by kernel_rfl) (by kernel_rfl) (by kernel_rfl) (by intro _ _ d_ _ _ h_; cases d_ <;> first | exact h_ | (dsimp +zetaDelta only at h_ ⊢; exact h_)) (fun w' => ∃ p : Wld U [], w' = p.val) (wld_start _ _) ?_
    have hG_ := @wldC U
    (refine tree_quiet gtA (by rfl) (by rfl) (fun K_ hK_ => ?_); go_big_quiet_op; refine hK_ _ ?_; clear hK_ K_)
    (refine tree_quiet gtA (by rfl) (by rfl) (fun K_ hK_ => ?_); go_big_quiet_op; refine hK_ _ ?_; clear hK_ K_)
    (refine tree_quiet gtA (by rfl) (by rfl) (fun K_ hK_ => ?_); go_big_quiet_op; refine hK_ _ ?_; clear hK_ K_)
    (refine tree_quiet gtA (by rfl) (by rfl) (fun K_ hK_ => ?_); go_big_quiet_op; refine hK_ _ ?_; clear hK_ K_)
    (refine tree_quiet gtA (by rfl) (by rfl) (fun K_ hK_ => ?_); go_big_quiet_op; refine hK_ _ ?_; clear hK_ K_)
    (refine tree_quiet gtA (by rfl) (by rfl) (fun K_ hK_ => ?_); go_big_quiet_op; refine hK_ _ ?_; clear hK_ K_)
    (refine tree_run gtA (by rfl) (by rfl) (fun K_ hK_ => ?_); have HK_ := Lib.hid hK_; clear hK_; go_wp2_with (first | (go_at_call 88; (with_reducible refine (HU8.out _ (HBU.out.trans (Below.mono (w := U) (by exact blw) HBU.out.size))).mono ?_); rintro e wa ⟨rfl, hba⟩; have hac := bc hba; have haf := bf hba; have haz := hba.size; try simp only [World.size_alloc, World.size_drew] at haz) | (go_at_call 87; (with_reducible refine (HB1.out _).mono ?_); rintro e wb ⟨rfl, hbb⟩; have hbc := bc hbb; have hbf := bf hbb; have hbz := hbb.size; try simp only [World.size_alloc, World.size_drew] at hbz)); refine HK_.out _ _ (wld_ofA) ?_; clear HK_)
    (refine tree_run gtA (by rfl) (by rfl) (fun K_ hK_ => ?_); have HK_ := Lib.hid hK_; clear hK_; go_wp2_with (first | (go_at_call 88; (with_reducible refine (HU8.out _ (HBU.out.trans (Below.mono (w := U) (by exact blw) HBU.out.size))).mono ?_); rintro e wa ⟨rfl, hba⟩; have hac := bc hba; have haf := bf hba; have haz := hba.size; try simp only [World.size_alloc, World.size_drew] at haz) | (go_at_call 87; (with_reducible refine (HB1.out _).mono ?_); rintro e wb ⟨rfl, hbb⟩; have hbc := bc hbb; have hbf := bf hbb; have hbz := hbb.size; try simp only [World.size_alloc, World.size_drew] at hbz)); exact ⟨rfl, .inr ⟨HNO.out, rfl⟩, HBU.out.trans (Below.mono (w := U) (by exact blw) HBU.out.size)⟩)
  have HR8 := Lib.hid (HRS.out P8 hf8)
  by_cases h16 : 16 ≤ n
  case neg =>
    have HNO := Lib.hid (show ∀ rs S, ¬ MOk bs glyphs k rs S from fun rs S ho => h16 (by have := ho.len; rw [HL.out] at this; exact this))
    have HB1 := Lib.hid (HUB.out 12 (by omega))
    refine wp_region_tree (.step 0 (.step 1 (.step 2 (.step 5 (.step 6 (.step 9 (.step 3 (.step 4 (.step 7 (.step 8 (.step 10 .nil))))))))))) (by kernel_rfl) (by kernel_rfl) (by kernel_rfl) (by kernel_rfl) (by intro _ _ d_ _ _ h_; cases d_ <;> first | exact h_ | (dsimp +zetaDelta only at h_ ⊢; exact h_)) (fun w' => ∃ p : Wld U [], w' = p.val) (wld_start _ _) ?_
    have hG_ := @wldC U
    (refine tree_quiet gtA (by rfl) (by rfl) (fun K_ hK_ => ?_); go_big_quiet_op; refine hK_ _ ?_; clear hK_ K_)
    (refine tree_quiet gtA (by rfl) (by rfl) (fun K_ hK_ => ?_); go_big_quiet_op; refine hK_ _ ?_; clear hK_ K_)
    (refine tree_quiet gtA (by rfl) (by rfl) (fun K_ hK_ => ?_); go_big_quiet_op; refine hK_ _ ?_; clear hK_ K_)
    (refine tree_quiet gtA (by rfl) (by rfl) (fun K_ hK_ => ?_); go_big_quiet_op; refine hK_ _ ?_; clear hK_ K_)
    (refine tree_quiet gtA (by rfl) (by rfl) (fun K_ hK_ => ?_); go_big_quiet_op; refine hK_ _ ?_; clear hK_ K_)
    (refine tree_quiet gtA (by rfl) (by rfl) (fun K_ hK_ => ?_); go_big_quiet_op; refine hK_ _ ?_; clear hK_ K_)
    (refine tree_run gtA (by rfl) (by rfl) (fun K_ hK_ => ?_); have HK_ := Lib.hid hK_; clear hK_; go_wp2_with (first | (go_at_call 88; (with_reducible refine (HU8.out _ (HBU.out.trans (Below.mono (w := U) (by exact blw) HBU.out.size))).mono ?_); rintro e wa ⟨rfl, hba⟩; have hac := bc hba; have haf := bf hba; have haz := hba.size; try simp only [World.size_alloc, World.size_drew] at haz) | (go_at_call 87; (with_reducible refine (HR8.out _).mono ?_); rintro e wb ⟨rfl, hbb⟩; have hbc := bc hbb; have hbf := bf hbb; have hbz := hbb.size; try simp only [World.size_alloc, World.size_drew] at hbz) | (go_at_call 88; (with_reducible refine (HB1.out _).mono ?_); rintro e wd ⟨rfl, hbd⟩; have hdc := bc hbd; have hdf := bf hbd; have hdz := hbd.size; try simp only [World.size_alloc, World.size_drew] at hdz)); refine HK_.out _ _ (wld_ofA) ?_; clear HK_)
    (refine tree_run gtA (by rfl) (by rfl) (fun K_ hK_ => ?_); have HK_ := Lib.hid hK_; clear hK_; go_wp2_with (first | (go_at_call 88; (with_reducible refine (HU8.out _ (HBU.out.trans (Below.mono (w := U) (by exact blw) HBU.out.size))).mono ?_); rintro e wa ⟨rfl, hba⟩; have hac := bc hba; have haf := bf hba; have haz := hba.size; try simp only [World.size_alloc, World.size_drew] at haz) | (go_at_call 87; (with_reducible refine (HR8.out _).mono ?_); rintro e wb ⟨rfl, hbb⟩; have hbc := bc hbb; have hbf := bf hbb; have hbz := hbb.size; try simp only [World.size_alloc, World.size_drew] at hbz) | (go_at_call 88; (with_reducible refine (HB1.out _).mono ?_); rintro e wd ⟨rfl, hbd⟩; have hdc := bc hbd; have hdf := bf hbd; have hdz := hbd.size; try simp only [World.size_alloc, World.size_drew] at hdz)); refine HK_.out _ _ (wld_ofA) ?_; clear HK_)
    (refine tree_run gtA (by rfl) (by rfl) (fun K_ hK_ => ?_); have HK_ := Lib.hid hK_; clear hK_; go_wp2_with (first | (go_at_call 88; (with_reducible refine (HU8.out _ (HBU.out.trans (Below.mono (w := U) (by exact blw) HBU.out.size))).mono ?_); rintro e wa ⟨rfl, hba⟩; have hac := bc hba; have haf := bf hba; have haz := hba.size; try simp only [World.size_alloc, World.size_drew] at haz) | (go_at_call 87; (with_reducible refine (HR8.out _).mono ?_); rintro e wb ⟨rfl, hbb⟩; have hbc := bc hbb; have hbf := bf hbb; have hbz := hbb.size; try simp only [World.size_alloc, World.size_drew] at hbz) | (go_at_call 88; (with_reducible refine (HB1.out _).mono ?_); rintro e wd ⟨rfl, hbd⟩; have hdc := bc hbd; have hdf := bf hbd; have hdz := hbd.size; try simp only [World.size_alloc, World.size_drew] at hdz)); exact ⟨rfl, .inr ⟨HNO.out, rfl⟩, HBU.out.trans (Below.mono (w := U) (by exact blw) HBU.out.size)⟩)
  have HU12 := Lib.hid (fun W hW => HU.out 12 12 rfl W hW h16)
  have hP12 := num4_lt bs 12
  obtain ⟨P12, hP⟩ : ∃ P12, P12 = num bs 12 4 := ⟨_, rfl⟩
  rw [← hP] at HU12 hP12 UM
  have HP12 := Lib.hid hP
  clear hP
  by_cases hf12 : P12 ≤ n
  case neg =>
    have HNO := Lib.hid (show ∀ rs S, ¬ MOk bs glyphs k rs S from fun rs S ho => hf12 (by have := ho.ents; rw [HL.out, ← HP12.out] at this; exact this))
    have HB1 := Lib.hid (HRB.out P12 (by omega))
    refine wp_region_tree (.step 0 (.step 1 (.step 2 (.step 5 (.step 6 (.step 9 (.step 3 (.step 4 (.step 7 (.step 8 (.step 10 .nil))))))))))) (by kernel_rfl) (by kernel_rfl) (by kernel_rfl) (by kernel_rfl) (by intro _ _ d_ _ _ h_; cases d_ <;> first | exact h_ | (dsimp +zetaDelta only at h_ ⊢; exact h_)) (fun w' => ∃ p : Wld U [], w' = p.val) (wld_start _ _) ?_
    have hG_ := @wldC U
    (refine tree_quiet gtA (by rfl) (by rfl) (fun K_ hK_ => ?_); go_big_quiet_op; refine hK_ _ ?_; clear hK_ K_)
    (refine tree_quiet gtA (by rfl) (by rfl) (fun K_ hK_ => ?_); go_big_quiet_op; refine hK_ _ ?_; clear hK_ K_)
    (refine tree_quiet gtA (by rfl) (by rfl) (fun K_ hK_ => ?_); go_big_quiet_op; refine hK_ _ ?_; clear hK_ K_)
    (refine tree_quiet gtA (by rfl) (by rfl) (fun K_ hK_ => ?_); go_big_quiet_op; refine hK_ _ ?_; clear hK_ K_)
    (refine tree_quiet gtA (by rfl) (by rfl) (fun K_ hK_ => ?_); go_big_quiet_op; refine hK_ _ ?_; clear hK_ K_)
    (refine tree_quiet gtA (by rfl) (by rfl) (fun K_ hK_ => ?_); go_big_quiet_op; refine hK_ _ ?_; clear hK_ K_)
    (refine tree_run gtA (by rfl) (by rfl) (fun K_ hK_ => ?_); have HK_ := Lib.hid hK_; clear hK_; go_wp2_with (first | (go_at_call 88; (with_reducible refine (HU8.out _ (HBU.out.trans (Below.mono (w := U) (by exact blw) HBU.out.size))).mono ?_); rintro e wa ⟨rfl, hba⟩; have hac := bc hba; have haf := bf hba; have haz := hba.size; try simp only [World.size_alloc, World.size_drew] at haz) | (go_at_call 87; (with_reducible refine (HR8.out _).mono ?_); rintro e wb ⟨rfl, hbb⟩; have hbc := bc hbb; have hbf := bf hbb; have hbz := hbb.size; try simp only [World.size_alloc, World.size_drew] at hbz) | (go_at_call 88; (with_reducible refine (HU12.out _ (HBU.out.trans (Below.mono (w := U) (by exact blw) HBU.out.size))).mono ?_); rintro e wd ⟨rfl, hbd⟩; have hdc := bc hbd; have hdf := bf hbd; have hdz := hbd.size; try simp only [World.size_alloc, World.size_drew] at hdz) | (go_at_call 87; (with_reducible refine (HB1.out _).mono ?_); rintro e wq ⟨rfl, hbq⟩; have hqc := bc hbq; have hqf := bf hbq; have hqz := hbq.size; try simp only [World.size_alloc, World.size_drew] at hqz)); refine HK_.out _ _ (wld_ofA) ?_; clear HK_)
    (refine tree_run gtA (by rfl) (by rfl) (fun K_ hK_ => ?_); have HK_ := Lib.hid hK_; clear hK_; go_wp2_with (first | (go_at_call 88; (with_reducible refine (HU8.out _ (HBU.out.trans (Below.mono (w := U) (by exact blw) HBU.out.size))).mono ?_); rintro e wa ⟨rfl, hba⟩; have hac := bc hba; have haf := bf hba; have haz := hba.size; try simp only [World.size_alloc, World.size_drew] at haz) | (go_at_call 87; (with_reducible refine (HR8.out _).mono ?_); rintro e wb ⟨rfl, hbb⟩; have hbc := bc hbb; have hbf := bf hbb; have hbz := hbb.size; try simp only [World.size_alloc, World.size_drew] at hbz) | (go_at_call 88; (with_reducible refine (HU12.out _ (HBU.out.trans (Below.mono (w := U) (by exact blw) HBU.out.size))).mono ?_); rintro e wd ⟨rfl, hbd⟩; have hdc := bc hbd; have hdf := bf hbd; have hdz := hbd.size; try simp only [World.size_alloc, World.size_drew] at hdz) | (go_at_call 87; (with_reducible refine (HB1.out _).mono ?_); rintro e wq ⟨rfl, hbq⟩; have hqc := bc hbq; have hqf := bf hbq; have hqz := hbq.size; try simp only [World.size_alloc, World.size_drew] at hqz)); refine HK_.out _ _ (wld_ofA) ?_; clear HK_)
    (refine tree_run gtA (by rfl) (by rfl) (fun K_ hK_ => ?_); have HK_ := Lib.hid hK_; clear hK_; go_wp2_with (first | (go_at_call 88; (with_reducible refine (HU8.out _ (HBU.out.trans (Below.mono (w := U) (by exact blw) HBU.out.size))).mono ?_); rintro e wa ⟨rfl, hba⟩; have hac := bc hba; have haf := bf hba; have haz := hba.size; try simp only [World.size_alloc, World.size_drew] at haz) | (go_at_call 87; (with_reducible refine (HR8.out _).mono ?_); rintro e wb ⟨rfl, hbb⟩; have hbc := bc hbb; have hbf := bf hbb; have hbz := hbb.size; try simp only [World.size_alloc, World.size_drew] at hbz) | (go_at_call 88; (with_reducible refine (HU12.out _ (HBU.out.trans (Below.mono (w := U) (by exact blw) HBU.out.size))).mono ?_); rintro e wd ⟨rfl, hbd⟩; have hdc := bc hbd; have hdf := bf hbd; have hdz := hbd.size; try simp only [World.size_alloc, World.size_drew] at hdz) | (go_at_call 87; (with_reducible refine (HB1.out _).mono ?_); rintro e wq ⟨rfl, hbq⟩; have hqc := bc hbq; have hqf := bf hbq; have hqz := hbq.size; try simp only [World.size_alloc, World.size_drew] at hqz)); refine HK_.out _ _ (wld_ofA) ?_; clear HK_)
    (refine tree_run gtA (by rfl) (by rfl) (fun K_ hK_ => ?_); have HK_ := Lib.hid hK_; clear hK_; go_wp2_with (first | (go_at_call 88; (with_reducible refine (HU8.out _ (HBU.out.trans (Below.mono (w := U) (by exact blw) HBU.out.size))).mono ?_); rintro e wa ⟨rfl, hba⟩; have hac := bc hba; have haf := bf hba; have haz := hba.size; try simp only [World.size_alloc, World.size_drew] at haz) | (go_at_call 87; (with_reducible refine (HR8.out _).mono ?_); rintro e wb ⟨rfl, hbb⟩; have hbc := bc hbb; have hbf := bf hbb; have hbz := hbb.size; try simp only [World.size_alloc, World.size_drew] at hbz) | (go_at_call 88; (with_reducible refine (HU12.out _ (HBU.out.trans (Below.mono (w := U) (by exact blw) HBU.out.size))).mono ?_); rintro e wd ⟨rfl, hbd⟩; have hdc := bc hbd; have hdf := bf hbd; have hdz := hbd.size; try simp only [World.size_alloc, World.size_drew] at hdz) | (go_at_call 87; (with_reducible refine (HB1.out _).mono ?_); rintro e wq ⟨rfl, hbq⟩; have hqc := bc hbq; have hqf := bf hbq; have hqz := hbq.size; try simp only [World.size_alloc, World.size_drew] at hqz)); exact ⟨rfl, .inr ⟨HNO.out, rfl⟩, HBU.out.trans (Below.mono (w := U) (by exact blw) HBU.out.size)⟩)
  have HR12 := Lib.hid (HRS.out P12 hf12)
  have HFI := Lib.hid (fun (W : World) (hW : Below U.heap.size U W) => show Calls Try.prog 133 #[.pointer (some ⟨g, 0, none⟩), .agg #[.slice (adv a c P8) (n - P8) (c - P8)], .agg #[.slice (adv a c P12) (n - P12) (c - P12)], .int .i64 (k : Nat)] W (FillIs w.heap.size g C (.pointer (some ⟨gl, 0, none⟩)) bs k (n - P8) (n - P12) W) from
    fill_any w.heap.size g C (.pointer (some ⟨gl, 0, none⟩)) bs k (adv a c P8) (adv a c P12) (n - P8) (n - P12) (c - P8) (c - P12) (k : Nat) rfl W
      (fun V hV => by have := (HH.out.below (HBU.out.trans ((hW.mono hwU).trans hV))).adv c P8 (by rw [bytesV_length, HL.out]; exact hnc); rw [bytesV_drop] at this; rw [← HP8.out]; exact this) (fun V hV => by have := (HH.out.below (HBU.out.trans ((hW.mono hwU).trans hV))).adv c P12 (by rw [bytesV_length, HL.out]; exact hnc); rw [bytesV_drop] at this; rw [← HP12.out]; exact this)
      (by rw [← HP8.out, List.length_drop, HL.out]) (by rw [← HP12.out, List.length_drop, HL.out]) (by omega) (by omega) (Nat.le_trans (Nat.sub_le _ _) hc) (Nat.le_trans (Nat.sub_le _ _) hc)
      (by rw [← HP12.out]; exact UM.out.below hW) HC.out hC4 hC6 hk (by have := hW.size; omega) (by omega))
  obtain ⟨S, hS⟩ := ex_least bs k
  have HS := Lib.hid hS
  by_cases hfit : S * (2 * C) ≤ n - P8 ∧ needE bs S * (4 + 2 * k) ≤ n - P12
  case neg =>
    have HNO := Lib.hid (show ∀ rs S, ¬ MOk bs glyphs k rs S from fun rs S' ho => hfit (by
      obtain rfl := hS.det ho.least
      have h1 := ho.fitS
      have h2 := ho.fitE
      rw [← HC.out, ← HP8.out, HL.out] at h1
      rw [← HP12.out, HL.out] at h2
      exact ⟨h1, h2⟩))
    have HB1 := Lib.hid (fun W hW => (HFI.out W hW).mono (R' := fun e w' => e = .panicked thrown ∧ Below w.heap.size W w') (by
      rintro e w' (⟨S', h1, h2, h3, _⟩ | ⟨_, h1, h2⟩)
      · obtain rfl := hS.det h1
        exact absurd ⟨h2, h3⟩ hfit
      · exact ⟨h1, h2⟩))
    refine wp_region_tree (.step 0 (.step 1 (.step 2 (.step 5 (.step 6 (.step 9 (.step 3 (.step 4 (.step 7 (.step 8 (.step 10 .nil))))))))))) (by kernel_rfl) (by kernel_rfl) (by kernel_rfl) (by kernel_rfl) (by intro _ _ d_ _ _ h_; cases d_ <;> first | exact h_ | (dsimp +zetaDelta only at h_ ⊢; exact h_)) (fun w' => ∃ p : Wld U [], w' = p.val) (wld_start _ _) ?_
    have hG_ := @wldC U
    (refine tree_quiet gtA (by rfl) (by rfl) (fun K_ hK_ => ?_); go_big_quiet_op; refine hK_ _ ?_; clear hK_ K_)
    (refine tree_quiet gtA (by rfl) (by rfl) (fun K_ hK_ => ?_); go_big_quiet_op; refine hK_ _ ?_; clear hK_ K_)
    (refine tree_quiet gtA (by rfl) (by rfl) (fun K_ hK_ => ?_); go_big_quiet_op; refine hK_ _ ?_; clear hK_ K_)
    (refine tree_quiet gtA (by rfl) (by rfl) (fun K_ hK_ => ?_); go_big_quiet_op; refine hK_ _ ?_; clear hK_ K_)
    (refine tree_quiet gtA (by rfl) (by rfl) (fun K_ hK_ => ?_); go_big_quiet_op; refine hK_ _ ?_; clear hK_ K_)
    (refine tree_quiet gtA (by rfl) (by rfl) (fun K_ hK_ => ?_); go_big_quiet_op; refine hK_ _ ?_; clear hK_ K_)
    (refine tree_run gtA (by rfl) (by rfl) (fun K_ hK_ => ?_); have HK_ := Lib.hid hK_; clear hK_; go_wp2_with (first | (go_at_call 88; (with_reducible refine (HU8.out _ (HBU.out.trans (Below.mono (w := U) (by exact blw) HBU.out.size))).mono ?_); rintro e wa ⟨rfl, hba⟩; have hac := bc hba; have haf := bf hba; have haz := hba.size; try simp only [World.size_alloc, World.size_drew] at haz) | (go_at_call 87; (with_reducible refine (HR8.out _).mono ?_); rintro e wb ⟨rfl, hbb⟩; have hbc := bc hbb; have hbf := bf hbb; have hbz := hbb.size; try simp only [World.size_alloc, World.size_drew] at hbz) | (go_at_call 88; (with_reducible refine (HU12.out _ (HBU.out.trans (Below.mono (w := U) (by exact blw) HBU.out.size))).mono ?_); rintro e wd ⟨rfl, hbd⟩; have hdc := bc hbd; have hdf := bf hbd; have hdz := hbd.size; try simp only [World.size_alloc, World.size_drew] at hdz) | (go_at_call 87; (with_reducible refine (HR12.out _).mono ?_); rintro e wq ⟨rfl, hbq⟩; have hqc := bc hbq; have hqf := bf hbq; have hqz := hbq.size; try simp only [World.size_alloc, World.size_drew] at hqz) | (go_at_call 133; (with_reducible refine (HB1.out _ (by exact blw)).mono ?_); rintro e w6 ⟨rfl, hb6⟩)); refine HK_.out _ _ (wld_ofA) ?_; clear HK_)
    (refine tree_run gtA (by rfl) (by rfl) (fun K_ hK_ => ?_); have HK_ := Lib.hid hK_; clear hK_; go_wp2_with (first | (go_at_call 88; (with_reducible refine (HU8.out _ (HBU.out.trans (Below.mono (w := U) (by exact blw) HBU.out.size))).mono ?_); rintro e wa ⟨rfl, hba⟩; have hac := bc hba; have haf := bf hba; have haz := hba.size; try simp only [World.size_alloc, World.size_drew] at haz) | (go_at_call 87; (with_reducible refine (HR8.out _).mono ?_); rintro e wb ⟨rfl, hbb⟩; have hbc := bc hbb; have hbf := bf hbb; have hbz := hbb.size; try simp only [World.size_alloc, World.size_drew] at hbz) | (go_at_call 88; (with_reducible refine (HU12.out _ (HBU.out.trans (Below.mono (w := U) (by exact blw) HBU.out.size))).mono ?_); rintro e wd ⟨rfl, hbd⟩; have hdc := bc hbd; have hdf := bf hbd; have hdz := hbd.size; try simp only [World.size_alloc, World.size_drew] at hdz) | (go_at_call 87; (with_reducible refine (HR12.out _).mono ?_); rintro e wq ⟨rfl, hbq⟩; have hqc := bc hbq; have hqf := bf hbq; have hqz := hbq.size; try simp only [World.size_alloc, World.size_drew] at hqz) | (go_at_call 133; (with_reducible refine (HB1.out _ (by exact blw)).mono ?_); rintro e w6 ⟨rfl, hb6⟩)); refine HK_.out _ _ (wld_ofA) ?_; clear HK_)
    (refine tree_run gtA (by rfl) (by rfl) (fun K_ hK_ => ?_); have HK_ := Lib.hid hK_; clear hK_; go_wp2_with (first | (go_at_call 88; (with_reducible refine (HU8.out _ (HBU.out.trans (Below.mono (w := U) (by exact blw) HBU.out.size))).mono ?_); rintro e wa ⟨rfl, hba⟩; have hac := bc hba; have haf := bf hba; have haz := hba.size; try simp only [World.size_alloc, World.size_drew] at haz) | (go_at_call 87; (with_reducible refine (HR8.out _).mono ?_); rintro e wb ⟨rfl, hbb⟩; have hbc := bc hbb; have hbf := bf hbb; have hbz := hbb.size; try simp only [World.size_alloc, World.size_drew] at hbz) | (go_at_call 88; (with_reducible refine (HU12.out _ (HBU.out.trans (Below.mono (w := U) (by exact blw) HBU.out.size))).mono ?_); rintro e wd ⟨rfl, hbd⟩; have hdc := bc hbd; have hdf := bf hbd; have hdz := hbd.size; try simp only [World.size_alloc, World.size_drew] at hdz) | (go_at_call 87; (with_reducible refine (HR12.out _).mono ?_); rintro e wq ⟨rfl, hbq⟩; have hqc := bc hbq; have hqf := bf hbq; have hqz := hbq.size; try simp only [World.size_alloc, World.size_drew] at hqz) | (go_at_call 133; (with_reducible refine (HB1.out _ (by exact blw)).mono ?_); rintro e w6 ⟨rfl, hb6⟩)); refine HK_.out _ _ (wld_ofA) ?_; clear HK_)
    (refine tree_run gtA (by rfl) (by rfl) (fun K_ hK_ => ?_); have HK_ := Lib.hid hK_; clear hK_; go_wp2_with (first | (go_at_call 88; (with_reducible refine (HU8.out _ (HBU.out.trans (Below.mono (w := U) (by exact blw) HBU.out.size))).mono ?_); rintro e wa ⟨rfl, hba⟩; have hac := bc hba; have haf := bf hba; have haz := hba.size; try simp only [World.size_alloc, World.size_drew] at haz) | (go_at_call 87; (with_reducible refine (HR8.out _).mono ?_); rintro e wb ⟨rfl, hbb⟩; have hbc := bc hbb; have hbf := bf hbb; have hbz := hbb.size; try simp only [World.size_alloc, World.size_drew] at hbz) | (go_at_call 88; (with_reducible refine (HU12.out _ (HBU.out.trans (Below.mono (w := U) (by exact blw) HBU.out.size))).mono ?_); rintro e wd ⟨rfl, hbd⟩; have hdc := bc hbd; have hdf := bf hbd; have hdz := hbd.size; try simp only [World.size_alloc, World.size_drew] at hdz) | (go_at_call 87; (with_reducible refine (HR12.out _).mono ?_); rintro e wq ⟨rfl, hbq⟩; have hqc := bc hbq; have hqf := bf hbq; have hqz := hbq.size; try simp only [World.size_alloc, World.size_drew] at hqz) | (go_at_call 133; (with_reducible refine (HB1.out _ (by exact blw)).mono ?_); rintro e w6 ⟨rfl, hb6⟩)); refine HK_.out _ _ (wld_ofA) ?_; clear HK_)
    (refine tree_run gtA (by rfl) (by rfl) (fun K_ hK_ => ?_); have HK_ := Lib.hid hK_; clear hK_; go_wp2_with (first | (go_at_call 88; (with_reducible refine (HU8.out _ (HBU.out.trans (Below.mono (w := U) (by exact blw) HBU.out.size))).mono ?_); rintro e wa ⟨rfl, hba⟩; have hac := bc hba; have haf := bf hba; have haz := hba.size; try simp only [World.size_alloc, World.size_drew] at haz) | (go_at_call 87; (with_reducible refine (HR8.out _).mono ?_); rintro e wb ⟨rfl, hbb⟩; have hbc := bc hbb; have hbf := bf hbb; have hbz := hbb.size; try simp only [World.size_alloc, World.size_drew] at hbz) | (go_at_call 88; (with_reducible refine (HU12.out _ (HBU.out.trans (Below.mono (w := U) (by exact blw) HBU.out.size))).mono ?_); rintro e wd ⟨rfl, hbd⟩; have hdc := bc hbd; have hdf := bf hbd; have hdz := hbd.size; try simp only [World.size_alloc, World.size_drew] at hdz) | (go_at_call 87; (with_reducible refine (HR12.out _).mono ?_); rintro e wq ⟨rfl, hbq⟩; have hqc := bc hbq; have hqf := bf hbq; have hqz := hbq.size; try simp only [World.size_alloc, World.size_drew] at hqz) | (go_at_call 133; (with_reducible refine (HB1.out _ (by exact blw)).mono ?_); rintro e w6 ⟨rfl, hb6⟩)); exact ⟨rfl, .inr ⟨HNO.out, rfl⟩, Below.trans (HBU.out.trans (Below.mono (w := U) (by exact blw) HBU.out.size)) hb6⟩)
  have HB1 := Lib.hid (fun W hW => (HFI.out W hW).mono (R' := fun e w' => e = .returned (.tuple #[]) ∧ MSt w.heap.size g C (.pointer (some ⟨gl, 0, none⟩)) (entN bs) (bs.drop (num bs 12 4)) k S (needE bs S) w' ∧ KeepC w.heap.size ownM W w') (by
      rintro e w' (⟨S', h1, _, _, h2, h3, h4⟩ | ⟨h1, _⟩)
      · obtain rfl := hS.det h1
        exact ⟨h2, h3, h4⟩
      · exact absurd hfit (h1 S hS)))
  have HOK := Lib.hid (show MOk bs glyphs k rs S from ⟨by rw [HL.out]; exact h16, by rw [← HC.out]; exact ⟨hC4, hC6⟩, by rw [HL.out, ← HP4.out]; exact hf4, by rw [← HP4.out]; exact HLK.out, by rw [HL.out, ← HP8.out]; exact hf8, by rw [HL.out, ← HP12.out]; exact hf12, hS, by rw [← HC.out, ← HP8.out, HL.out]; exact hfit.1, by rw [← HP12.out, HL.out]; exact hfit.2⟩)
  clear hS hfit
  have u3 := HU3.out
  refine wp_region_tree (.step 0 (.step 1 (.step 2 (.step 5 (.step 6 (.step 9 (.step 3 (.step 4 (.step 7 (.step 8 (.step 10 .nil))))))))))) (by kernel_rfl) (by kernel_rfl) (by kernel_rfl) (by kernel_rfl) (by intro _ _ d_ _ _ h_; cases d_ <;> first | exact h_ | (dsimp +zetaDelta only at h_ ⊢; exact h_)) (fun w' => ∃ p : KepP (ownM) U, w' = p.val) (kepP_start _ _) ?_
  have hK0_ := fun (p : KepP (ownM) U) (o : Nat) => p.is.cell u3 (by first | (intro h_; exact absurd h_.1 (by decide)) | (intro h_; exact h_.2 rfl) | (intro h_; rcases h_ with h_ | h_ | h_ <;> exact absurd h_ (by decide)) | (intro h_; rcases h_ with h_ | h_ <;> exact absurd h_ (by decide))) o
  (refine tree_quiet gtA (by rfl) (by rfl) (fun K_ hK_ => ?_); go_big_quiet_op; refine hK_ _ ?_; clear hK_ K_)
  (refine tree_quiet gtA (by rfl) (by rfl) (fun K_ hK_ => ?_); go_big_quiet_op; refine hK_ _ ?_; clear hK_ K_)
  (refine tree_quiet gtA (by rfl) (by rfl) (fun K_ hK_ => ?_); go_big_quiet_op; refine hK_ _ ?_; clear hK_ K_)
  (refine tree_quiet gtA (by rfl) (by rfl) (fun K_ hK_ => ?_); go_big_quiet_op; refine hK_ _ ?_; clear hK_ K_)
  (refine tree_quiet gtA (by rfl) (by rfl) (fun K_ hK_ => ?_); go_big_quiet_op; refine hK_ _ ?_; clear hK_ K_)
  (refine tree_quiet gtA (by rfl) (by rfl) (fun K_ hK_ => ?_); go_big_quiet_op; refine hK_ _ ?_; clear hK_ K_)
  (refine tree_run gtA (by rfl) (by rfl) (fun K_ hK_ => ?_); have HK_ := Lib.hid hK_; clear hK_; go_wp2_with (first | (go_at_call 88; (with_reducible refine (HU8.out _ (HBU.out.trans (Below.mono (w := U) (by exact blw) HBU.out.size))).mono ?_); rintro e wa ⟨rfl, hba⟩; have hac := bc hba; have haf := bf hba; have haz := hba.size; try simp only [World.size_alloc, World.size_drew] at haz) | (go_at_call 87; (with_reducible refine (HR8.out _).mono ?_); rintro e wb ⟨rfl, hbb⟩; have hbc := bc hbb; have hbf := bf hbb; have hbz := hbb.size; try simp only [World.size_alloc, World.size_drew] at hbz) | (go_at_call 88; (with_reducible refine (HU12.out _ (HBU.out.trans (Below.mono (w := U) (by exact blw) HBU.out.size))).mono ?_); rintro e wd ⟨rfl, hbd⟩; have hdc := bc hbd; have hdf := bf hbd; have hdz := hbd.size; try simp only [World.size_alloc, World.size_drew] at hdz) | (go_at_call 87; (with_reducible refine (HR12.out _).mono ?_); rintro e wq ⟨rfl, hbq⟩; have hqc := bc hbq; have hqf := bf hbq; have hqz := hbq.size; try simp only [World.size_alloc, World.size_drew] at hqz) | (go_at_call 133; (with_reducible refine (HB1.out _ (by exact blw)).mono ?_); rintro e w6 ⟨rfl, hm6, hk6⟩; have hko6 := hk6.kepO)); refine HK_.out _ _ (kepP_ofA) ?_; clear HK_)
  (refine tree_run gtA (by rfl) (by rfl) (fun K_ hK_ => ?_); have HK_ := Lib.hid hK_; clear hK_; go_wp2_with (first | (go_at_call 88; (with_reducible refine (HU8.out _ (HBU.out.trans (Below.mono (w := U) (by exact blw) HBU.out.size))).mono ?_); rintro e wa ⟨rfl, hba⟩; have hac := bc hba; have haf := bf hba; have haz := hba.size; try simp only [World.size_alloc, World.size_drew] at haz) | (go_at_call 87; (with_reducible refine (HR8.out _).mono ?_); rintro e wb ⟨rfl, hbb⟩; have hbc := bc hbb; have hbf := bf hbb; have hbz := hbb.size; try simp only [World.size_alloc, World.size_drew] at hbz) | (go_at_call 88; (with_reducible refine (HU12.out _ (HBU.out.trans (Below.mono (w := U) (by exact blw) HBU.out.size))).mono ?_); rintro e wd ⟨rfl, hbd⟩; have hdc := bc hbd; have hdf := bf hbd; have hdz := hbd.size; try simp only [World.size_alloc, World.size_drew] at hdz) | (go_at_call 87; (with_reducible refine (HR12.out _).mono ?_); rintro e wq ⟨rfl, hbq⟩; have hqc := bc hbq; have hqf := bf hbq; have hqz := hbq.size; try simp only [World.size_alloc, World.size_drew] at hqz) | (go_at_call 133; (with_reducible refine (HB1.out _ (by exact blw)).mono ?_); rintro e w6 ⟨rfl, hm6, hk6⟩; have hko6 := hk6.kepO)); refine HK_.out _ _ (kepP_ofA) ?_; clear HK_)
  (refine tree_run gtA (by rfl) (by rfl) (fun K_ hK_ => ?_); have HK_ := Lib.hid hK_; clear hK_; go_wp2_with (first | (go_at_call 88; (with_reducible refine (HU8.out _ (HBU.out.trans (Below.mono (w := U) (by exact blw) HBU.out.size))).mono ?_); rintro e wa ⟨rfl, hba⟩; have hac := bc hba; have haf := bf hba; have haz := hba.size; try simp only [World.size_alloc, World.size_drew] at haz) | (go_at_call 87; (with_reducible refine (HR8.out _).mono ?_); rintro e wb ⟨rfl, hbb⟩; have hbc := bc hbb; have hbf := bf hbb; have hbz := hbb.size; try simp only [World.size_alloc, World.size_drew] at hbz) | (go_at_call 88; (with_reducible refine (HU12.out _ (HBU.out.trans (Below.mono (w := U) (by exact blw) HBU.out.size))).mono ?_); rintro e wd ⟨rfl, hbd⟩; have hdc := bc hbd; have hdf := bf hbd; have hdz := hbd.size; try simp only [World.size_alloc, World.size_drew] at hdz) | (go_at_call 87; (with_reducible refine (HR12.out _).mono ?_); rintro e wq ⟨rfl, hbq⟩; have hqc := bc hbq; have hqf := bf hbq; have hqz := hbq.size; try simp only [World.size_alloc, World.size_drew] at hqz) | (go_at_call 133; (with_reducible refine (HB1.out _ (by exact blw)).mono ?_); rintro e w6 ⟨rfl, hm6, hk6⟩; have hko6 := hk6.kepO)); refine HK_.out _ _ (kepP_ofA) ?_; clear HK_)
  (refine tree_run gtA (by rfl) (by rfl) (fun K_ hK_ => ?_); have HK_ := Lib.hid hK_; clear hK_; go_wp2_with (first | (go_at_call 88; (with_reducible refine (HU8.out _ (HBU.out.trans (Below.mono (w := U) (by exact blw) HBU.out.size))).mono ?_); rintro e wa ⟨rfl, hba⟩; have hac := bc hba; have haf := bf hba; have haz := hba.size; try simp only [World.size_alloc, World.size_drew] at haz) | (go_at_call 87; (with_reducible refine (HR8.out _).mono ?_); rintro e wb ⟨rfl, hbb⟩; have hbc := bc hbb; have hbf := bf hbb; have hbz := hbb.size; try simp only [World.size_alloc, World.size_drew] at hbz) | (go_at_call 88; (with_reducible refine (HU12.out _ (HBU.out.trans (Below.mono (w := U) (by exact blw) HBU.out.size))).mono ?_); rintro e wd ⟨rfl, hbd⟩; have hdc := bc hbd; have hdf := bf hbd; have hdz := hbd.size; try simp only [World.size_alloc, World.size_drew] at hdz) | (go_at_call 87; (with_reducible refine (HR12.out _).mono ?_); rintro e wq ⟨rfl, hbq⟩; have hqc := bc hbq; have hqf := bf hbq; have hqz := hbq.size; try simp only [World.size_alloc, World.size_drew] at hqz) | (go_at_call 133; (with_reducible refine (HB1.out _ (by exact blw)).mono ?_); rintro e w6 ⟨rfl, hm6, hk6⟩; have hko6 := hk6.kepO)); refine HK_.out _ _ (kepP_ofA) ?_; clear HK_)
  (refine tree_run gtA (by rfl) (by rfl) (fun K_ hK_ => ?_); have HK_ := Lib.hid hK_; clear hK_; go_wp2_with (first | (go_at_call 88; (with_reducible refine (HU8.out _ (HBU.out.trans (Below.mono (w := U) (by exact blw) HBU.out.size))).mono ?_); rintro e wa ⟨rfl, hba⟩; have hac := bc hba; have haf := bf hba; have haz := hba.size; try simp only [World.size_alloc, World.size_drew] at haz) | (go_at_call 87; (with_reducible refine (HR8.out _).mono ?_); rintro e wb ⟨rfl, hbb⟩; have hbc := bc hbb; have hbf := bf hbb; have hbz := hbb.size; try simp only [World.size_alloc, World.size_drew] at hbz) | (go_at_call 88; (with_reducible refine (HU12.out _ (HBU.out.trans (Below.mono (w := U) (by exact blw) HBU.out.size))).mono ?_); rintro e wd ⟨rfl, hbd⟩; have hdc := bc hbd; have hdf := bf hbd; have hdz := hbd.size; try simp only [World.size_alloc, World.size_drew] at hdz) | (go_at_call 87; (with_reducible refine (HR12.out _).mono ?_); rintro e wq ⟨rfl, hbq⟩; have hqc := bc hbq; have hqf := bf hbq; have hqz := hbq.size; try simp only [World.size_alloc, World.size_drew] at hqz) | (go_at_call 133; (with_reducible refine (HB1.out _ (by exact blw)).mono ?_); rintro e w6 ⟨rfl, hm6, hk6⟩; have hko6 := hk6.kepO)); refine HK_.out _ _ (kepP_ofA) ?_; clear HK_)
  refine tree_nil ?_
  clear hK0_
  have hbq' : Below U.heap.size U wq := (by exact blw)
  go_wp2_with fail
  go_ret
  refine ⟨.inl ⟨rs, S, g, HOK.out, rfl, ⟨gl, fmt, by rw [← HC.out]; exact hm6, by rw [← HP4.out]; exact (UT.out.below hbq').keepC hk6 (fun m hx => by rcases hx with hx | hx | hx <;> exact absurd hx (by decide)) (fun m hx => by rcases hx with hx | hx | hx <;> exact absurd hx (by decide)) (fun hx => by rcases hx with hx | hx | hx <;> exact absurd hx (by decide))⟩⟩, ?_⟩
  exact (HBU.out.trans (hbq'.mono hwU)).trans hk6.below

def notM (own : Nat → Nat → Prop) : Prop := (∀ k, ¬ own k 53) ∧ (∀ k, ¬ own k 157) ∧ (∀ k, ¬ own k 88) ∧ (∀ k, ¬ own k 224) ∧ (∀ k, ¬ own k 218) ∧ (∀ k, ¬ own k 156) ∧ ∀ k, ¬ own k 216
theorem MSt.keepO {B g C : Nat} {lk : Value} {f : Nat → Nat} {eb : List UInt8} {k s n B0 : Nat} {own : Nat → Nat → Prop} {w w' : World} (h : MSt B g C lk f eb k s n w) (hk : KeepC B0 own w w') (ho : notM own) : MSt B g C lk f eb k s n w' := by
  obtain ⟨aS, cS, vs, aE, cE, h1, h2, h3, h4⟩ := h.is
  refine ⟨aS, cS, vs, aE, cE, (hk.kept g _ _ _ h1 (ho.2.2.2.1 g)).trans h1, hk.owns h2 ho.1, ⟨fun i v hv => ?_⟩, hk.owns h4 ho.2.2.1⟩
  obtain ⟨gi, h5, h6⟩ := h3.each i v hv
  exact ⟨gi, h5, hk.owns h6 ho.2.1⟩
theorem MIs.keepO {B g : Nat} {bs : List UInt8} {k : Nat} {rs : List RP} {S B0 : Nat} {own : Nat → Nat → Prop} {w w' : World} (h : MIs B g bs k rs S w) (hk : KeepC B0 own w w') (ho : notM own) : MIs B g bs k rs S w' := by
  obtain ⟨gl, fmt, h1, h2⟩ := h.is
  exact ⟨gl, fmt, h1.keepO hk ho, h2.keepC hk ho.2.2.2.2.1 ho.2.2.2.2.2.1 (ho.2.2.2.2.2.2 gl)⟩
/-- A store into a block of another kind. -/
theorem MIs.setOther {B g g3 o : Nat} {bs : List UInt8} {k : Nat} {rs : List RP} {S : Nat} {w : World} {cs : Array Value} {t : Nat} {fz : Nat × Nat} (h : MIs B g bs k rs S w) (hw : w.heap[g3]? = some (.cells cs t fz)) (ht : notM fun _ t' => t' = t) (v : Value) : MIs B g bs k rs S (w.setCell ⟨g3, o, none⟩ v) :=
  h.keepO ((KeepC.refl 0 (fun _ t' => t' = t) w).set (Nat.zero_le _) hw rfl v) ht
theorem MSt.mono {B B' g C : Nat} {lk : Value} {f : Nat → Nat} {eb : List UInt8} {k s n : Nat} {w : World} (h : MSt B g C lk f eb k s n w) (hB : B' ≤ B) : MSt B' g C lk f eb k s n w := by
  obtain ⟨aS, cS, vs, aE, cE, h1, h2, h3, h4⟩ := h.is
  refine ⟨aS, cS, vs, aE, cE, h1, owns_mono h2 hB, ⟨fun i v hv => ?_⟩, owns_mono h4 hB⟩
  obtain ⟨gi, h5, h6⟩ := h3.each i v hv
  exact ⟨gi, h5, owns_mono h6 hB⟩
theorem MIs.mono {B B' g : Nat} {bs : List UInt8} {k : Nat} {rs : List RP} {S : Nat} {w : World} (h : MIs B g bs k rs S w) (hB : B' ≤ B) : MIs B' g bs k rs S w := by
  obtain ⟨gl, fmt, h1, h2⟩ := h.is
  exact ⟨gl, fmt, h1.mono hB, h2.monoM hB⟩
theorem mtake_ok (a : Option Addr) (n c : Nat) (bs : List UInt8) (glyphs k : Nat) (rs : List RP) (S : Nat) (w : World) (hh : Has w a (bytesV bs)) (hbl : bs.length = n) (hnc : n ≤ c) (hc : c ≤ maxLen) (hg1 : 1 ≤ glyphs) (hg2 : glyphs ≤ 65535) (hk : k ≤ 2) (hok : MOk bs glyphs k rs S) :
    Calls Try.prog 86 #[.agg #[.slice a n c], .int .i64 (glyphs : Nat), .int .i64 (k : Nat)] w fun e w' => ∃ g, e = .returned (.pointer (some ⟨g, 0, none⟩)) ∧ MIs w.heap.size g bs k rs S w' ∧ Below w.heap.size w w' := by
  refine (mtake_any a n c bs glyphs k _ _ rfl rfl w hh hbl hnc hc hg1 hg2 hk).mono ?_
  rintro e w' ⟨(⟨rs', S', g, hr, he, ht⟩ | ⟨hno, _⟩), hb⟩
  · obtain ⟨rfl, rfl⟩ := hok.det hr
    exact ⟨g, he, ht, hb⟩
  · exact absurd hok (hno rs S)
theorem mtake_bad (a : Option Addr) (n c : Nat) (bs : List UInt8) (glyphs k : Nat) (w : World) (hh : Has w a (bytesV bs)) (hbl : bs.length = n) (hnc : n ≤ c) (hc : c ≤ maxLen) (hg1 : 1 ≤ glyphs) (hg2 : glyphs ≤ 65535) (hk : k ≤ 2) (hno : ∀ rs S, ¬ MOk bs glyphs k rs S) :
    Calls Try.prog 86 #[.agg #[.slice a n c], .int .i64 (glyphs : Nat), .int .i64 (k : Nat)] w fun e w' => e = .panicked thrown ∧ Below w.heap.size w w' := by
  refine (mtake_any a n c bs glyphs k _ _ rfl rfl w hh hbl hnc hc hg1 hg2 hk).mono ?_
  rintro e w' ⟨(⟨rs', S', g, hr, _, _⟩ | ⟨_, he⟩), hb⟩
  · exact absurd hr (hno rs' S')
  · exact ⟨he, hb⟩
theorem entsV_one (vb : List UInt8) (k n : Nat) : ∀ u ∈ entsV vb k n, u.oneCell' = true := by
  intro u hu
  simp only [entsV, List.mem_flatMap, entV, List.mem_cons, List.not_mem_nil, or_false] at hu
  obtain ⟨p, _, rfl | rfl | rfl | rfl⟩ := hu <;> rfl
theorem eqe_nil (w : World) (n c : Nat) : (binOp .eql 49 (.slice none n c) (.slice none 0 0)).run Try.prog w = .ok (.bool true) w := by kernel_rfl
theorem eqe_some (w : World) (p : Addr) (n c : Nat) : (binOp .eql 49 (.slice (some p) n c) (.slice none 0 0)).run Try.prog w = .ok (.bool false) w := by kernel_rfl
set_option maxHeartbeats 800000 in
theorem eclone_any (a : Option Addr) (n c : Nat) (vb : List UInt8) (k : Nat) (w : World) (h : Has w a (entsV vb k n)) (hn2 : n ≤ 1099511627776) (hA : a = none → n = 0) :
    Calls Try.prog 154 #[.slice a n c] w fun e w' => ∃ a' c', e = .returned (.slice a' n c') ∧ w'.ownsRow w.heap.size 88 4 (.slice a' n c') n (entsV vb k n) ∧ n ≤ c' ∧ c' ≤ maxLen ∧ (a' = none → c' = 0) ∧ Below w.heap.size w w' := by
  have HH := Lib.hid h
  have hE0 := eqe_nil
  have hE1 := eqe_some
  clear h
  cases a with
  | none =>
    obtain rfl := hA rfl
    go_enter Try.func154, Try.ntmps154
    go_wp2
    go_ret
    exact ⟨none, 0, rfl, World.ownsRow_nil _ _ _ _, Nat.zero_le _, fun _ => rfl, brefl _⟩
  | some p =>
    clear hA
    go_enter Try.func154, Try.ntmps154
    go_wp2_with (at_builtin; refine wpApp rfl _ _ 49 rfl w.heap.size 88 (.agg #[.int .i64 0, .int .i64 0, .int .i64 0, .int .i64 0]) 4 32 Try.underlying49 info_entry rfl (by decide) _ 0 [] rfl (World.ownsRow_lit w #[] 0 (Nat.le_refl _) (by decide) rfl) (some p) n c (entsV vb k n) rfl (by rw [entsV_length]) (HH.out.below (balloc (brefl _) _)) (fun h => by cases h) (entsV_one vb k n) (by unfold maxLen; omega) (by omega) (by simp) ?_; intro a1 c1 w1 hown k1 k2 k3 hb1 _; have HO := Lib.hid hown; have H3 := Lib.hid k3; clear hown k3)
    go_ret
    have e0 : 0 + n = n := Nat.zero_add n
    exact ⟨a1, c1, by rw [← e0]; rfl, by simpa using HO.out, by omega, k2, H3.out, (balloc (brefl _) _).trans hb1⟩
theorem entries_any (B g : Nat) (bs : List UInt8) (k : Nat) (rs : List RP) (S : Nat) (w : World) (h : MIs B g bs k rs S w) :
    Calls Try.prog 135 #[.pointer (some ⟨g, 0, none⟩)] w fun e w' => ∃ a' c', e = .returned (.slice a' (needE bs S) c') ∧ w'.ownsRow w.heap.size 88 4 (.slice a' (needE bs S) c') (needE bs S) (entsV (bs.drop (num bs 12 4)) k (needE bs S)) ∧ needE bs S ≤ c' ∧ c' ≤ maxLen ∧ (a' = none → c' = 0) ∧ Below w.heap.size w w' := by
  obtain ⟨gl, fmt, ⟨aS, cS, vs, aE, cE, h1, _, _, h4⟩, _⟩ := h.is
  have c0 := cell_of_heap h1 3
  simp only [machC, List.getElem?_toArray, List.getElem?_cons_succ, List.getElem?_cons_zero] at c0
  have hn := needE_le bs S
  have hA : aE = none → needE bs S = 0 := fun ha => by
    rcases h4.2 with ⟨_, h0⟩ | ⟨g', cap, cur, hv, _⟩
    · exact h0
    · injection hv with e1 _ _
      rw [ha] at e1
      cases e1
  have HC := Lib.hid (eclone_any aE (needE bs S) cE (bs.drop (num bs 12 4)) k w (has_of_owns h4) (by omega) hA)
  clear h1 h4 h hA
  generalize needE bs S = n at *
  generalize bs.drop (num bs 12 4) = eb at *
  go_enter Try.func135, Try.ntmps135
  go_wp2_with fail
  refine HC.out.mono ?_
  rintro e w1 ⟨a', c', rfl, h1, h2, h3, h4, h5⟩
  have H1 := Lib.hid h1
  have H4 := Lib.hid h4
  clear h1 h4
  go_wp2_with fail
  go_ret
  exact ⟨a', c', rfl, H1.out, h2, h3, H4.out, h5⟩
/-- An entry's value. -/
def entA (vb : List UInt8) (k j : Nat) : Value := .agg #[.int .i64 (num vb (j * (4 + 2 * k)) 2 : Nat), .int .i64 (num vb (j * (4 + 2 * k) + 2) 2 : Nat), .int .i64 ((if 0 < k then num vb (j * (4 + 2 * k) + 4) 2 else 0 : Nat) : Int), .int .i64 ((if 1 < k then num vb (j * (4 + 2 * k) + 6) 2 else 0 : Nat) : Int)]
theorem entsV_get (vb : List UInt8) (k n j i : Nat) (hj : j < n) (hi : i < 4) : (entsV vb k n)[j * 4 + i]? = (entV vb k j)[i]? := by
  induction n with
  | zero => omega
  | succ n ih =>
    rw [entsV_succ]
    rcases Nat.lt_or_ge j n with g | g
    · rw [List.getElem?_append_left (by rw [entsV_length]; omega)]
      exact ih g
    · obtain rfl : j = n := by omega
      rw [List.getElem?_append_right (by rw [entsV_length]; omega), entsV_length, Nat.add_sub_cancel_left]
theorem ent_in {bs : List UInt8} {S s c : Nat} (hs : s < S) (hc : c < num bs 0 4) : entN bs (s * num bs 0 4 + c) < needE bs S :=
  needL_lt (by have : (s + 1) * num bs 0 4 ≤ S * num bs 0 4 := Nat.mul_le_mul_right _ hs
               rw [Nat.succ_mul] at this; omega)
set_option maxRecDepth 100000 in
set_option maxHeartbeats 1600000 in
theorem step_yes (B g : Nat) (bs : List UInt8) (k : Nat) (rs : List RP) (S : Nat) (s c : Nat) (w : World) (h : MIs B g bs k rs S w) (hS : S ≤ 65536) (hs : s < S) (hc : c < num bs 0 4) :
    Calls Try.prog 106 #[.pointer (some ⟨g, 0, none⟩), .int .i64 (s : Nat), .int .i64 (c : Nat)] w fun e w' => e = .returned (.tuple #[entA (bs.drop (num bs 12 4)) k (entN bs (s * num bs 0 4 + c)), .bool true]) ∧ Below w.heap.size w w' := by
  have hAC := allocC
  have hAF := allocF
  have hin := ent_in (S := S) hs hc
  obtain ⟨gl, fmt, ⟨aS, cS, vs, aE, cE, h0, h1, h2, h3⟩, _⟩ := h.is
  have c0 := cell_of_heap h0 0
  have c2 := cell_of_heap h0 2
  have c3 := cell_of_heap h0 3
  simp only [machC, List.getElem?_toArray, List.getElem?_cons_succ, List.getElem?_cons_zero] at c0 c2 c3
  have hgl := cell_lt c0
  simp only at hgl
  have hC := num4_lt bs 0
  obtain ⟨gS, v, rfl, _, hv, hcS⟩ := lrow_cell h1 s hs
  obtain ⟨gi, rfl, ho⟩ := h2.each s v hv
  have hst : (stV (entN bs) (num bs 0 4) s)[c]? = some (.int .u16 (entN bs (s * num bs 0 4 + c) : Nat)) := by
    simp [stV, List.getElem?_map, List.getElem?_range hc]
  have hcC := (ho.cellAt c (by omega)).trans hst
  have hn := needE_le bs S
  obtain ⟨gE, hgE⟩ : ∃ gE, aE = some ⟨gE, 0, none⟩ := by
    rcases h3.2 with ⟨_, h0⟩ | ⟨g', cap, cur, hv', _⟩
    · omega
    · injection hv' with e1 _ _
      exact ⟨g', e1⟩
  subst hgE
  have hx : entN bs (s * num bs 0 4 + c) ≤ 65535 := num2_lt bs _
  have HE := Lib.hid (fun i (hi : i < 4) => (h3.cellAt (entN bs (s * num bs 0 4 + c) * 4 + i) (by omega)).trans (entsV_get (bs.drop (num bs 12 4)) k (needE bs S) _ i hin hi))
  have e0 := HE.out 0 (by omega)
  have e1 := HE.out 1 (by omega)
  have e2 := HE.out 2 (by omega)
  have e3 := HE.out 3 (by omega)
  rw [Nat.add_zero] at e0
  unfold entA
  unfold entV at e0 e1 e2 e3
  simp only [List.getElem?_cons_succ, List.getElem?_cons_zero] at e0 e1 e2 e3
  clear HE h0 h1 h2 h3 hv ho hst h
  generalize num bs 0 4 = C at *
  generalize entN bs (s * C + c) = j at *
  generalize needE bs S = n at *
  generalize num (bs.drop (num bs 12 4)) (j * (4 + 2 * k)) 2 = x0 at *
  generalize num (bs.drop (num bs 12 4)) (j * (4 + 2 * k) + 2) 2 = x2 at *
  generalize (if 0 < k then num (bs.drop (num bs 12 4)) (j * (4 + 2 * k) + 4) 2 else 0) = x4 at *
  generalize (if 1 < k then num (bs.drop (num bs 12 4)) (j * (4 + 2 * k) + 6) 2 else 0) = x6 at *
  have d1 : decide ((s : Int) < 0) = false := by simp
  have d2 : decide ((S : Int) ≤ (s : Int)) = false := by simp; omega
  have d3 : decide ((c : Int) < 0) = false := by simp
  have d4 : decide ((C : Int) ≤ (c : Int)) = false := by simp; omega
  go_enter Try.func106, Try.ntmps106
  go_wp2_with fail
  obtain ⟨V, hV⟩ : ∃ V, V = w.alloc (Obj.cells #[.int .i64 0, .int .i64 0, .int .i64 0, .int .i64 0] 88) := ⟨_, rfl⟩
  have hb : Below w.heap.size w V := by rw [hV]; exact blw
  have hzV : V.heap.size = w.heap.size + 1 := by rw [hV]; simp
  have z6 : V.heap[w.heap.size]? = some (.cells #[.int .i64 0, .int .i64 0, .int .i64 0, .int .i64 0] 88 (0, 0)) := by rw [hV, heap_push, if_pos rfl]
  rw [← hV]
  have l2 := cell_lt hcS
  have l3 := cell_lt hcC
  have l4 := cell_lt e0
  simp only at l2 l3 l4
  have c0 := (hb.cell (p := ⟨g, 0, none⟩) hgl).trans c0
  have c2 := (hb.cell (p := ⟨g, 2, none⟩) hgl).trans c2
  have c3 := (hb.cell (p := ⟨g, 3, none⟩) hgl).trans c3
  have hcS := (hb.cell (p := ⟨gS, s, none⟩) l2).trans hcS
  have hcC := (hb.cell (p := ⟨gi, c, none⟩) l3).trans hcC
  have e0 := (hb.cell (p := ⟨gE, j * 4, none⟩) l4).trans e0
  have e1 := (hb.cell (p := ⟨gE, j * 4 + 1, none⟩) l4).trans e1
  have e2 := (hb.cell (p := ⟨gE, j * 4 + 2, none⟩) l4).trans e2
  have e3 := (hb.cell (p := ⟨gE, j * 4 + 3, none⟩) l4).trans e3
  have n1 : ¬ g = w.heap.size := by omega
  have n2 : ¬ gS = w.heap.size := by omega
  have n3 : ¬ gi = w.heap.size := by omega
  have n4 : ¬ gE = w.heap.size := by omega
  have q6 := fun o => cell_of_heap z6 o
  have f6 := fun o => froz_of_heap z6 o
  have HB := Lib.hid hb
  clear hV hb z6
  refine wp_region_tree (.step 0 (.step 1 (.step 2 (.step 3 (.step 4 (.step 5 (.step 6 (.step 7 (.step 8 (.step 9 (.step 10 (.step 11 (.step 12 (.step 13 (.step 14 (.step 15 (.step 16 (.step 17 .nil)))))))))))))))))) (by kernel_rfl) (by kernel_rfl) (by kernel_rfl) (by kernel_rfl) (by intro _ _ d_ _ _ h_; cases d_ <;> first | exact h_ | (dsimp +zetaDelta only at h_ ⊢; exact h_)) (fun w' => ∃ p : Wld V [w.heap.size], w' = p.val) (wld_start _ _) ?_
  have hG_ := @wldC1 V w.heap.size
  (refine tree_quiet gtA (by rfl) (by rfl) (fun K_ hK_ => ?_); go_big_quiet_op; refine hK_ _ ?_; clear hK_ K_)
  (refine tree_quiet gtA (by rfl) (by rfl) (fun K_ hK_ => ?_); go_big_quiet_op; refine hK_ _ ?_; clear hK_ K_)
  (refine tree_quiet gtA (by rfl) (by rfl) (fun K_ hK_ => ?_); go_big_quiet_op; refine hK_ _ ?_; clear hK_ K_)
  (refine tree_quiet gtA (by rfl) (by rfl) (fun K_ hK_ => ?_); go_big_quiet_op; refine hK_ _ ?_; clear hK_ K_)
  (refine tree_quiet gtA (by rfl) (by rfl) (fun K_ hK_ => ?_); go_big_quiet_op; refine hK_ _ ?_; clear hK_ K_)
  (refine tree_quiet gtA (by rfl) (by rfl) (fun K_ hK_ => ?_); go_big_quiet_op; refine hK_ _ ?_; clear hK_ K_)
  (refine tree_quiet gtA (by rfl) (by rfl) (fun K_ hK_ => ?_); go_big_quiet_op; refine hK_ _ ?_; clear hK_ K_)
  (refine tree_quiet gtA (by rfl) (by rfl) (fun K_ hK_ => ?_); go_big_quiet_op; refine hK_ _ ?_; clear hK_ K_)
  (refine tree_quiet gtA (by rfl) (by rfl) (fun K_ hK_ => ?_); go_big_quiet_op; refine hK_ _ ?_; clear hK_ K_)
  (refine tree_quiet gtA (by rfl) (by rfl) (fun K_ hK_ => ?_); go_big_quiet_op; refine hK_ _ ?_; clear hK_ K_)
  (refine tree_quiet gtA (by rfl) (by rfl) (fun K_ hK_ => ?_); go_big_quiet_op; refine hK_ _ ?_; clear hK_ K_)
  (refine tree_quiet gtA (by rfl) (by rfl) (fun K_ hK_ => ?_); go_big_quiet_op; refine hK_ _ ?_; clear hK_ K_)
  (refine tree_quiet gtA (by rfl) (by rfl) (fun K_ hK_ => ?_); go_big_quiet_op; refine hK_ _ ?_; clear hK_ K_)
  (refine tree_quiet gtA (by rfl) (by rfl) (fun K_ hK_ => ?_); go_big_quiet_op; refine hK_ _ ?_; clear hK_ K_)
  (refine tree_quiet gtA (by rfl) (by rfl) (fun K_ hK_ => ?_); go_big_quiet_op; refine hK_ _ ?_; clear hK_ K_)
  (refine tree_quiet gtA (by rfl) (by rfl) (fun K_ hK_ => ?_); go_big_quiet_op; refine hK_ _ ?_; clear hK_ K_)
  (refine tree_run gtA (by rfl) (by rfl) (fun K_ hK_ => ?_); have HK_ := Lib.hid hK_; clear hK_; go_wp2_with (fail); refine HK_.out _ _ (wld_ofA) ?_; clear HK_)
  (refine tree_quiet gtA (by rfl) (by rfl) (fun K_ hK_ => ?_); go_big_quiet_op; refine hK_ _ ?_; clear hK_ K_)
  refine tree_nil ?_
  clear hG_
  have h6l : w.heap.size < V.heap.size := by omega
  go_wp2_with fail
  refine bodyPost_ret (v := .tuple #[.agg #[.int .i64 (x0 : Nat), .int .i64 (x2 : Nat), .int .i64 (x4 : Nat), .int .i64 (x6 : Nat)], .bool true]) (by simp [results, Try.results106, go_sem, q6, f6]) rfl ⟨rfl, ?_⟩
  exact (bset (bset (bset (bset HB.out (by simp) _) (by simp) _) (by simp) _) (by simp) _).drew
/-- A glyph's class. -/
def classM (bs : List UInt8) (rs : List RP) (id : Int) : Nat :=
  if id = 65535 then 2 else
    let r := getL (tabR (bs.drop (num bs 4 4)) rs).1 (tabR (bs.drop (num bs 4 4)) rs).2 id
    if r.2 = true ∧ r.1 < num bs 0 4 then r.1 else 1
set_option maxRecDepth 100000 in
set_option maxHeartbeats 1600000 in
theorem class_any (B g : Nat) (bs : List UInt8) (k : Nat) (rs : List RP) (S : Nat) (id : Int) (w : World) (h : MIs B g bs k rs S w) (hf : FitL (tabR (bs.drop (num bs 4 4)) rs).1 (tabR (bs.drop (num bs 4 4)) rs).2) (hid : -9223372036854775808 ≤ id ∧ id ≤ 9223372036854775807) :
    Calls Try.prog 144 #[.pointer (some ⟨g, 0, none⟩), .int .i64 id] w fun e w' => e = .returned (.int .i64 (classM bs rs id : Nat)) ∧ Below w.heap.size w w' := by
  by_cases h5 : id = 65535
  · subst h5
    go_enter Try.func144, Try.ntmps144
    go_wp2_with fail
    go_ret
    exact ⟨rfl, brefl _⟩
  have hne : (id == 65535) = false := by simpa using h5
  obtain ⟨gl, fmt, ⟨aS, cS, vs, aE, cE, h0, _, _, _⟩, hT⟩ := h.is
  have c0 := cell_of_heap h0 0
  have c1 := cell_of_heap h0 1
  simp only [machC, List.getElem?_toArray, List.getElem?_cons_succ, List.getElem?_cons_zero] at c0 c1
  have hgl := cell_lt c0
  simp only at hgl
  have HG := Lib.hid (get_fn B gl fmt _ _ id w hT hf hid)
  have hC := num4_lt bs 0
  have HR := Lib.hid (show classM bs rs id = if (getL (tabR (bs.drop (num bs 4 4)) rs).1 (tabR (bs.drop (num bs 4 4)) rs).2 id).2 = true ∧ (getL (tabR (bs.drop (num bs 4 4)) rs).1 (tabR (bs.drop (num bs 4 4)) rs).2 id).1 < num bs 0 4 then (getL (tabR (bs.drop (num bs 4 4)) rs).1 (tabR (bs.drop (num bs 4 4)) rs).2 id).1 else 1 from by unfold classM; rw [if_neg h5])
  clear h0 hT h hf h5
  generalize classM bs rs id = R at *
  generalize (getL (tabR (bs.drop (num bs 4 4)) rs).1 (tabR (bs.drop (num bs 4 4)) rs).2 id).1 = x at *
  generalize (getL (tabR (bs.drop (num bs 4 4)) rs).1 (tabR (bs.drop (num bs 4 4)) rs).2 id).2 = b at *
  generalize num bs 0 4 = C at *
  cases b with
  | false =>
    obtain rfl : R = 1 := by have := HR.out; simpa using this
    go_enter Try.func144, Try.ntmps144
    go_wp2_with fail
    refine HG.out.mono ?_
    rintro e w1 ⟨rfl, hb1⟩
    have c0' := (hb1.cell (p := ⟨g, 0, none⟩) hgl).trans c0
    have HB1 := Lib.hid hb1
    clear hb1
    go_wp2_with fail
    go_ret
    exact ⟨rfl, HB1.out⟩
  | true =>
    by_cases hlt : x < C
    · obtain rfl : R = x := by have := HR.out; simpa [hlt] using this
      clear HR
      have d : decide ((R : Int) < (C : Int)) = true := by simp; omega
      go_enter Try.func144, Try.ntmps144
      go_wp2_with fail
      refine HG.out.mono ?_
      rintro e w1 ⟨rfl, hb1⟩
      have c0' := (hb1.cell (p := ⟨g, 0, none⟩) hgl).trans c0
      have HB1 := Lib.hid hb1
      clear hb1
      go_wp2_with fail
      go_ret
      exact ⟨rfl, HB1.out⟩
    · obtain rfl : R = 1 := by have := HR.out; simpa [hlt] using this
      clear HR
      have d : decide ((x : Int) < (C : Int)) = false := by simp; omega
      go_enter Try.func144, Try.ntmps144
      go_wp2_with fail
      refine HG.out.mono ?_
      rintro e w1 ⟨rfl, hb1⟩
      have c0' := (hb1.cell (p := ⟨g, 0, none⟩) hgl).trans c0
      have HB1 := Lib.hid hb1
      clear hb1
      go_wp2_with fail
      go_ret
      exact ⟨rfl, HB1.out⟩
end Go.Proofs.Ytaladlaffglkeaa
end
section

/- The contract of the reference's needs of layer 7. Conditions: as many bytes as the slice says, no more than 4000; all numbers there. The contract of the reference's Read of layer 7. Conditions: as many bytes as the slice says, no more than 4000; glyphs from 1 to 65535, words from 0 to 2. -/
namespace Go.Proofs.Ytaladlaffglkeaa
open Go.RowKit Go.Lib

end Go.Proofs.Ytaladlaffglkeaa
end
