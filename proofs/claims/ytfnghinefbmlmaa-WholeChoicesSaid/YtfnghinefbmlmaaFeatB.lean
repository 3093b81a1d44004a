
/- Package feat: a feature out of its bytes. Conditions: as many bytes as the slices say. -/
import Derived.Test.YtfnghinefbmlmaaFeatA
import Derived.Test.YtfnghinefbmlmaaLeaf
namespace Go.Proofs.Ytfnghinefbmlmaa
open Go.RowKit Go.Lib

theorem wpMakeO {P : Program} {w : World} {o : Oper} {a : Act} {K : Act → World → Prop} {Q : Exit → Act → World → Prop} (l c : Operand) (t : TypeId) (hop : o.op = Op.makeSlice t l c)
    (base : Nat) (e : TypeId) (z : Value) (size bytes : Nat) (h1 : P.underlying t = some (.slice e)) (hi : (P.info? e).map (fun i => (i.zero, i.size, i.bytes)) = some (some z, size, bytes))
    (n : Nat) (hl : a.eval l = .int .i64 (n : Int)) (hc : a.eval c = .int .i64 (n : Int)) (b2 : bytes * n ≤ 281474976710656) (b3 : n ≤ maxLen) (b4 : base ≤ w.heap.size)
    (hK : ∀ w', w'.ownsRow base e size (.slice (some ⟨w.heap.size, 0, none⟩) n n) n (madeCells z.cells (n * size)).toList → Below w.heap.size w w' → K (a.put o.dst (.slice (some ⟨w.heap.size, 0, none⟩) n n)) w') : o.wp P a w K Q := by
  obtain ⟨i, hi', hz, hz1, hz2⟩ := info_parts hi
  subst hz2
  obtain ⟨w', hrun, r1, r2⟩ := run_make_full (P := P) w base t e i z size h1 hi' hz hz1 .i64 .i64 n b2 b3 b4
  unfold Oper.wp
  simp [execOp, hop, hl, hc, hrun, Result.andThen]
  exact hK _ r1 ((Below.refl _ w).grown r2 (Nat.le_refl _) (fun k hk => by cases hk))
def dfF (sb : List UInt8) (m fl : Nat) : Int := if bt fl 15 = true then firstF sb m fl else -1
def featC (ty : Nat) (ex : Bool) (df : Int) (s : Value) : Array Value := #[.int .i64 (ty : Nat), .bool ex, .int .i64 df, s]
def zeroI (m : Nat) : List Value := List.replicate m (.int .i64 0)
theorem made_int (n : Nat) : (madeCells (Value.int .i64 0).cells (n * 1)).toList = zeroI n := by
  apply List.ext_getElem?
  intro j
  simp only [madeCells, Value.cells, zeroI]
  by_cases h : j < n
  · simp [h, Nat.mod_one]
  · simp [h]
def partS (sb : List UInt8) (m j : Nat) : List Value := setV sb j ++ zeroI (m - j)
theorem partS_zero (sb : List UInt8) (m : Nat) : partS sb m 0 = zeroI m := by simp [partS, setV]
theorem partS_all (sb : List UInt8) (m : Nat) : partS sb m m = setV sb m := by simp [partS, zeroI]
theorem partS_set (sb : List UInt8) (m j : Nat) (h : j < m) : (partS sb m j).set j (.int .i64 (num sb (4 * j) 2 : Nat)) = partS sb m (j + 1) := by
  obtain ⟨k, hk⟩ : ∃ k, m - j = k + 1 := ⟨m - j - 1, by omega⟩
  unfold partS
  rw [hk, List.set_append_right _ _ (by simp [setV]), show m - (j + 1) = k by omega]
  simp [setV, List.range_succ, zeroI, List.replicate_succ]
theorem info_intF : (Try.prog.info? 3).map (fun i => (i.zero, i.size, i.bytes)) = some (some (.int .i64 0), 1, 8) := by kernel_rfl
theorem below_new {w X : World} {o : Obj} (h : Below (w.alloc o).heap.size (w.alloc o) X) : X.heap[w.heap.size]? = some o := (h.block w.heap.size (by simp)).trans (by rw [heap_push, if_pos rfl])
theorem below_newd {w X : World} {o : Obj} (h : Below (w.alloc o).drew.heap.size (w.alloc o).drew X) : X.heap[w.heap.size]? = some o := below_new ((Below.refl _ _).drew.trans h)
def FLeaf (V : World) (ty m : Nat) (x5 x13 : Value) (U : World) : Prop :=
  ∃ g h, x5 = .pointer (some ⟨g, 0, none⟩) ∧ x13 = .slice (some ⟨h, 0, none⟩) m m ∧ U.heap[g]? = some (.cells (featC ty false (-1) (.slice (some ⟨h, 0, none⟩) m m)) 36 (0, 0)) ∧
    U.ownsRow V.heap.size 3 1 (.slice (some ⟨h, 0, none⟩) m m) m (zeroI m) ∧ Below V.heap.size V U ∧ V.heap.size ≤ g
theorem fleaf_mk {V X : World} {g h m ty : Nat} {z0 z1 z2 z3 x5 x13 : Value} (h5 : x5 = .pointer (some ⟨g, 0, none⟩)) (h13 : x13 = .slice (some ⟨h, 0, none⟩) m m) (hX : Below V.heap.size V X) (hg : X.heap[g]? = some (.cells #[z0, z1, z2, z3] 36 (0, 0))) (ho : X.ownsRow V.heap.size 3 1 (.slice (some ⟨h, 0, none⟩) m m) m (zeroI m)) (hgV : V.heap.size ≤ g) :
    FLeaf V ty m x5 x13 ((((X.setCell ⟨g, 0, none⟩ (.int .i64 (ty : Nat))).setCell ⟨g, 1, none⟩ (.bool false)).setCell ⟨g, 2, none⟩ (.int .i64 (-1))).setCell ⟨g, 3, none⟩ (.slice (some ⟨h, 0, none⟩) m m)) := by
  have e0 := set_heap_at (o := 0) (.int .i64 (ty : Nat)) hg
  have e1 := set_heap_at (o := 1) (.bool false) e0
  have e2 := set_heap_at (o := 2) (.int .i64 (-1)) e1
  have e3 := set_heap_at (o := 3) (.slice (some ⟨h, 0, none⟩) m m) e2
  refine ⟨g, h, h5, h13, e3, ?_, ?_, hgV⟩
  · exact set_owns _ (set_owns _ (set_owns _ (set_owns _ ho (own_neE ho hg (by decide))) (own_neE (set_owns _ ho (own_neE ho hg (by decide))) e0 (by decide))) (own_neE (set_owns _ (set_owns _ ho (own_neE ho hg (by decide))) (own_neE (set_owns _ ho (own_neE ho hg (by decide))) e0 (by decide))) e1 (by decide)))
      (own_neE (set_owns _ (set_owns _ (set_owns _ ho (own_neE ho hg (by decide))) (own_neE (set_owns _ ho (own_neE ho hg (by decide))) e0 (by decide))) (own_neE (set_owns _ (set_owns _ ho (own_neE ho hg (by decide))) (own_neE (set_owns _ ho (own_neE ho hg (by decide))) e0 (by decide))) e1 (by decide))) e2 (by decide))
  · exact bset (bset (bset (bset hX hgV _) hgV _) hgV _) hgV _
theorem fleaf_new {V X : World} {h m ty : Nat} {x5 x13 : Value} (h5 : x5 = .pointer (some ⟨X.heap.size, 0, none⟩)) (h13 : x13 = .slice (some ⟨h, 0, none⟩) m m) (hX : Below V.heap.size V X) (ho : X.ownsRow V.heap.size 3 1 (.slice (some ⟨h, 0, none⟩) m m) m (zeroI m)) :
    FLeaf V ty m x5 x13 (X.alloc (.cells #[.int .i64 (ty : Nat), .bool false, .int .i64 (-1), .slice (some ⟨h, 0, none⟩) m m] 36)) :=
  ⟨X.heap.size, h, h5, h13, by rw [heap_push, if_pos rfl]; rfl, owns_below ho (balloc (brefl _) _) (Nat.le_refl _), balloc hX _, hX.size⟩
def FRelB (V : World) (g h ty m : Nat) (sb : List UInt8) (i : Value) (wr : World) : Prop :=
  ∃ j, j ≤ m ∧ i = .int .i64 (j : Nat) ∧ wr.ownsRow V.heap.size 3 1 (.slice (some ⟨h, 0, none⟩) m m) m (partS sb m j) ∧
    wr.heap[g]? = some (.cells (featC ty false (-1) (.slice (some ⟨h, 0, none⟩) m m)) 36 (0, 0)) ∧ Below V.heap.size V wr
set_option maxRecDepth 100000 in
set_option maxHeartbeats 1600000 in
theorem feature_any (ra : Option Addr) (rc : Nat) (rb : List UInt8) (sa : Option Addr) (P sc m : Nat) (sb : List UInt8) (w : World) (hr : Has w ra (bytesV rb)) (hrl : rb.length = 12) (hrc : 12 ≤ rc) (hrm : rc ≤ maxLen) (hs : Has w sa (bytesV sb)) (hsl : sb.length = P) (hP : P = 4 * m) (hsc : P ≤ sc) (hsm : sc ≤ maxLen) (hm : m ≤ 65535) :
    Calls Try.prog 49 #[.agg #[.slice ra 12 rc], .agg #[.slice sa P sc]] w fun e w' => ∃ h, e = .returned (.agg (featC (num rb 0 2) (bt (num rb 8 2) 15) (dfF sb m (num rb 8 2)) (.slice (some ⟨h, 0, none⟩) m m))) ∧ w'.ownsRow w.heap.size 3 1 (.slice (some ⟨h, 0, none⟩) m m) m (setV sb m) ∧ Below w.heap.size w w' := by
  have hAC := allocC
  have hAF := allocF
  have H0 := Lib.hid (fun W (hW : Below w.heap.size w W) => u16_z ra 12 rc 0 0 rfl rb W (hr.below hW) hrl (by omega) hrc hrm)
  have H8 := Lib.hid (fun W (hW : Below w.heap.size w W) => u16_z ra 12 rc 8 8 rfl rb W (hr.below hW) hrl (by omega) hrc hrm)
  have HS := Lib.hid (fun (j : Nat) (z : Int) (hz : z = ((4 * j : Nat) : Int)) (hj : j < m) W (hW : Below w.heap.size w W) => u16_z sa P sc (4 * j) z hz sb W (hs.below hW) hsl (by omega) hsc hsm)
  have hfl := num2_lt rb 8
  have HPP := Lib.hid hP
  have hdiv : (P : Int) / 4 = (m : Int) := by omega
  have hdiv2 : Int.tdiv (P : Int) 4 = (m : Int) := by rw [Int.tdiv_eq_ediv_of_nonneg (by omega)]; exact hdiv
  clear hr hrl hs hsl hP
  generalize num rb 0 2 = ty at *
  generalize num rb 8 2 = fl at *
  go_enter Try.func49, Try.ntmps49
  go_wp2_with fail
  obtain ⟨V, hV⟩ : ∃ V, V = ((w.alloc (Obj.cells #[.slice ra 12 rc] 71)).alloc (Obj.cells #[.slice sa P sc] 71)).alloc (Obj.cells #[.int .i64 0, .bool false, .int .i64 0, .slice none 0 0] 36) := ⟨_, rfl⟩
  have hb : Below w.heap.size w V := by rw [hV]; exact blw
  have z2 : V.heap[w.heap.size]? = some (.cells #[.slice ra 12 rc] 71 (0, 0)) := by rw [hV, heap_push, if_neg (by simp; omega), heap_push, if_neg (by simp), heap_push, if_pos rfl]
  have z3 : V.heap[w.heap.size + 1]? = some (.cells #[.slice sa P sc] 71 (0, 0)) := by rw [hV, heap_push, if_neg (by simp), heap_push, if_pos (by simp)]
  have z4 : V.heap[w.heap.size + 2]? = some (.cells #[.int .i64 0, .bool false, .int .i64 0, .slice none 0 0] 36 (0, 0)) := by rw [hV, heap_push, if_pos (by simp)]
  rw [← hV]
  have HZV := Lib.hid (show V.heap.size = w.heap.size + 3 by rw [hV]; simp)
  clear hV
  have c2 := cell_of_heap z2 0
  have c3 := cell_of_heap z3 0
  simp only [List.getElem?_toArray, List.getElem?_cons_zero] at c2 c3
  have HB := Lib.hid hb
  have Z2 := Lib.hid z2
  have Z3 := Lib.hid z3
  have Z4 := Lib.hid z4
  have hl2 := cell_lt c2
  have hl3 := cell_lt c3
  simp only at hl2 hl3
  clear hb z2 z3 z4
  apply cutP (R := ∀ (x_ : Nat → Value) (W_ : World), (fun x U => FLeaf V ty m (x 5) (x 13) U) x_ W_ → _)
  · intro hfin_
    refine wp_region_tree (.step 0 (.step 2 (.two 1 (.two 3 (.step 4 (.two 5 (.step 6 (.step 7 (.step 8 .nil))) 7 (.step 5 (.step 6 (.step 8 .nil))))) 7 (.step 3 (.step 4 (.step 5 (.step 6 (.step 8 .nil)))))) 7 (.step 1 (.step 3 (.step 4 (.step 5 (.step 6 (.step 8 .nil))))))))) (by kernel_rfl) (by kernel_rfl) (by kernel_rfl) (by kernel_rfl) (by intro _ _ d_ _ _ h_; cases d_ <;> first | exact h_ | (dsimp +zetaDelta only at h_ ⊢; exact h_)) (fun w' => ∃ p : Wld V [], w' = p.val) (wld_start _ _) ?_
    have hG_ := @wldC V
    (refine tree_quiet (by simp only [List.getElem?_toArray, List.getElem?_cons_succ, List.getElem?_cons_zero]; rfl) (by rfl) (by rfl) (fun K_ hK_ => ?_); go_big_quiet_op; refine hK_ _ ?_; clear hK_ K_)
    (refine tree_quiet (by simp only [List.getElem?_toArray, List.getElem?_cons_succ, List.getElem?_cons_zero]; rfl) (by rfl) (by rfl) (fun K_ hK_ => ?_); go_big_quiet_op; refine hK_ _ ?_; clear hK_ K_)
    refine tree_two (by simp only [List.getElem?_toArray, List.getElem?_cons_succ, List.getElem?_cons_zero]; rfl) (by simp only [List.getElem?_toArray, List.getElem?_cons_succ, List.getElem?_cons_zero]; rfl) (by rfl) (by rfl) (fun K_ hK_ => ?_) (fun K_ hK_ => ?_)
    · have HK_ := Lib.hid hK_; clear hK_; (first | ((refine wpMakeO _ _ 34 rfl V.heap.size 3 (.int .i64 0) 1 8 Try.underlying34 info_intF m rfl rfl (by omega) (by unfold maxLen; omega) (by first | omega | (simp; omega)) ?_; intro w4 hown hb4; have hz4 := hb4.size; have h4c := bc hb4; have h4f := bf hb4; (try simp only [World.size_alloc, World.size_drew] at hz4); have HO := Lib.hid hown; clear hown; (try dsimp only [Act.put]); (try simp only [List.setIfInBounds_toArray, List.set_cons_succ, List.set_cons_zero]))) | (go_wp2_with (first | (go_at_call 46; (with_reducible refine (H0.out _ (HB.out.trans (Below.mono (w := V) (by exact blw) HB.out.size))).mono ?_); rintro e wa ⟨rfl, hba⟩; have hac := bc hba; have haf := bf hba; have haz := hba.size; try simp only [World.size_alloc, World.size_drew] at haz) | (go_at_call 58; (with_reducible refine (len_any _ _ _ _).mono ?_); rintro e wb ⟨rfl, hbb⟩; have hbc := bc hbb; have hbf := bf hbb; have hbz := hbb.size; try simp only [World.size_alloc, World.size_drew] at hbz)))); refine HK_.out _ _ (wld_ofA) ?_; clear HK_
      refine tree_two (by simp only [List.getElem?_toArray, List.getElem?_cons_succ, List.getElem?_cons_zero]; rfl) (by simp only [List.getElem?_toArray, List.getElem?_cons_succ, List.getElem?_cons_zero]; rfl) (by rfl) (by rfl) (fun K_ hK_ => ?_) (fun K_ hK_ => ?_)
      · have HK_ := Lib.hid hK_; clear hK_; (first | ((refine wpMakeO _ _ 34 rfl V.heap.size 3 (.int .i64 0) 1 8 Try.underlying34 info_intF m rfl rfl (by omega) (by unfold maxLen; omega) (by first | omega | (simp; omega)) ?_; intro w4 hown hb4; have hz4 := hb4.size; have h4c := bc hb4; have h4f := bf hb4; (try simp only [World.size_alloc, World.size_drew] at hz4); have HO := Lib.hid hown; clear hown; (try dsimp only [Act.put]); (try simp only [List.setIfInBounds_toArray, List.set_cons_succ, List.set_cons_zero]))) | (go_wp2_with (first | (go_at_call 46; (with_reducible refine (H0.out _ (HB.out.trans (Below.mono (w := V) (by exact blw) HB.out.size))).mono ?_); rintro e wa ⟨rfl, hba⟩; have hac := bc hba; have haf := bf hba; have haz := hba.size; try simp only [World.size_alloc, World.size_drew] at haz) | (go_at_call 58; (with_reducible refine (len_any _ _ _ _).mono ?_); rintro e wb ⟨rfl, hbb⟩; have hbc := bc hbb; have hbf := bf hbb; have hbz := hbb.size; try simp only [World.size_alloc, World.size_drew] at hbz)))); refine HK_.out _ _ (wld_ofA) ?_; clear HK_
        (refine tree_quiet (by simp only [List.getElem?_toArray, List.getElem?_cons_succ, List.getElem?_cons_zero]; rfl) (by rfl) (by rfl) (fun K_ hK_ => ?_); go_big_quiet_op; refine hK_ _ ?_; clear hK_ K_)
        refine tree_two (by simp only [List.getElem?_toArray, List.getElem?_cons_succ, List.getElem?_cons_zero]; rfl) (by simp only [List.getElem?_toArray, List.getElem?_cons_succ, List.getElem?_cons_zero]; rfl) (by rfl) (by rfl) (fun K_ hK_ => ?_) (fun K_ hK_ => ?_)
        · have HK_ := Lib.hid hK_; clear hK_; (first | ((refine wpMakeO _ _ 34 rfl V.heap.size 3 (.int .i64 0) 1 8 Try.underlying34 info_intF m rfl rfl (by omega) (by unfold maxLen; omega) (by first | omega | (simp; omega)) ?_; intro w4 hown hb4; have hz4 := hb4.size; have h4c := bc hb4; have h4f := bf hb4; (try simp only [World.size_alloc, World.size_drew] at hz4); have HO := Lib.hid hown; clear hown; (try dsimp only [Act.put]); (try simp only [List.setIfInBounds_toArray, List.set_cons_succ, List.set_cons_zero]))) | (go_wp2_with (first | (go_at_call 46; (with_reducible refine (H0.out _ (HB.out.trans (Below.mono (w := V) (by exact blw) HB.out.size))).mono ?_); rintro e wa ⟨rfl, hba⟩; have hac := bc hba; have haf := bf hba; have haz := hba.size; try simp only [World.size_alloc, World.size_drew] at haz) | (go_at_call 58; (with_reducible refine (len_any _ _ _ _).mono ?_); rintro e wb ⟨rfl, hbb⟩; have hbc := bc hbb; have hbf := bf hbb; have hbz := hbb.size; try simp only [World.size_alloc, World.size_drew] at hbz)))); refine HK_.out _ _ (wld_ofA) ?_; clear HK_
          (refine tree_quiet (by simp only [List.getElem?_toArray, List.getElem?_cons_succ, List.getElem?_cons_zero]; rfl) (by rfl) (by rfl) (fun K_ hK_ => ?_); go_big_quiet_op; refine hK_ _ ?_; clear hK_ K_)
          (refine tree_run (by simp only [List.getElem?_toArray, List.getElem?_cons_succ, List.getElem?_cons_zero]; rfl) (by rfl) (by rfl) (fun K_ hK_ => ?_); have HK_ := Lib.hid hK_; clear hK_; (first | ((refine wpMakeO _ _ 34 rfl V.heap.size 3 (.int .i64 0) 1 8 Try.underlying34 info_intF m rfl rfl (by omega) (by unfold maxLen; omega) (by first | omega | (simp; omega)) ?_; intro w4 hown hb4; have hz4 := hb4.size; have h4c := bc hb4; have h4f := bf hb4; (try simp only [World.size_alloc, World.size_drew] at hz4); have HO := Lib.hid hown; clear hown; (try dsimp only [Act.put]); (try simp only [List.setIfInBounds_toArray, List.set_cons_succ, List.set_cons_zero]))) | (go_wp2_with (first | (go_at_call 46; (with_reducible refine (H0.out _ (HB.out.trans (Below.mono (w := V) (by exact blw) HB.out.size))).mono ?_); rintro e wa ⟨rfl, hba⟩; have hac := bc hba; have haf := bf hba; have haz := hba.size; try simp only [World.size_alloc, World.size_drew] at haz) | (go_at_call 58; (with_reducible refine (len_any _ _ _ _).mono ?_); rintro e wb ⟨rfl, hbb⟩; have hbc := bc hbb; have hbf := bf hbb; have hbz := hbb.size; try simp only [World.size_alloc, World.size_drew] at hbz)))); refine HK_.out _ _ (wld_ofA) ?_; clear HK_)
          (refine tree_run (by simp only [List.getElem?_toArray, List.getElem?_cons_succ, List.getElem?_cons_zero]; rfl) (by rfl) (by rfl) (fun K_ hK_ => ?_); have HK_ := Lib.hid hK_; clear hK_; (first | ((refine wpMakeO _ _ 34 rfl V.heap.size 3 (.int .i64 0) 1 8 Try.underlying34 info_intF m rfl rfl (by omega) (by unfold maxLen; omega) (by first | omega | (simp; omega)) ?_; intro w4 hown hb4; have hz4 := hb4.size; have h4c := bc hb4; have h4f := bf hb4; (try simp only [World.size_alloc, World.size_drew] at hz4); have HO := Lib.hid hown; clear hown; (try dsimp only [Act.put]); (try simp only [List.setIfInBounds_toArray, List.set_cons_succ, List.set_cons_zero]))) | (go_wp2_with (first | (go_at_call 46; (with_reducible refine (H0.out _ (HB.out.trans (Below.mono (w := V) (by exact blw) HB.out.size))).mono ?_); rintro e wa ⟨rfl, hba⟩; have hac := bc hba; have haf := bf hba; have haz := hba.size; try simp only [World.size_alloc, World.size_drew] at haz) | (go_at_call 58; (with_reducible refine (len_any _ _ _ _).mono ?_); rintro e wb ⟨rfl, hbb⟩; have hbc := bc hbb; have hbf := bf hbb; have hbz := hbb.size; try simp only [World.size_alloc, World.size_drew] at hbz)))); refine HK_.out _ _ (wld_ofA) ?_; clear HK_)
          refine tree_nil ?_
          refine leaf_vals [5,13,14] (fun x U => FLeaf V ty m (x 5) (x 13) U) (by rfl) (by first | (simp only [blank, List.setIfInBounds_toArray, List.set_cons_succ, List.set_cons_zero]; rfl) | simp only [blank, List.setIfInBounds_toArray, List.set_cons_succ, List.set_cons_zero]) (hfin_ ()) ?_
          (simp only [World.size_alloc, World.size_drew, made_int] at HO; first | (with_reducible refine fleaf_new ?_ ?_ ?_ ?_) | (with_reducible refine fleaf_mk (z0 := .int .i64 0) (z1 := .bool false) (z2 := .int .i64 0) (z3 := .slice none 0 0) ?_ ?_ ?_ ?_ ?_ ?_)) <;> first | rfl | (simp only [World.size_alloc, World.size_drew]; rfl) | (with_reducible exact blw) | (with_reducible exact below_new (by assumption)) | (with_reducible exact below_new (bthen (by assumption) (by assumption))) | (with_reducible exact below_new (bthen (bthen (by assumption) (by assumption)) (by assumption))) | (with_reducible exact below_newd (by assumption)) | (with_reducible exact below_newd (bthen (by assumption) (by assumption))) | (with_reducible exact below_newd (bthen (bthen (by assumption) (by assumption)) (by assumption))) | (with_reducible exact HO.out) | omega
        · have HK_ := Lib.hid hK_; clear hK_; (first | ((refine wpMakeO _ _ 34 rfl V.heap.size 3 (.int .i64 0) 1 8 Try.underlying34 info_intF m rfl rfl (by omega) (by unfold maxLen; omega) (by first | omega | (simp; omega)) ?_; intro w4 hown hb4; have hz4 := hb4.size; have h4c := bc hb4; have h4f := bf hb4; (try simp only [World.size_alloc, World.size_drew] at hz4); have HO := Lib.hid hown; clear hown; (try dsimp only [Act.put]); (try simp only [List.setIfInBounds_toArray, List.set_cons_succ, List.set_cons_zero]))) | (go_wp2_with (first | (go_at_call 46; (with_reducible refine (H0.out _ (HB.out.trans (Below.mono (w := V) (by exact blw) HB.out.size))).mono ?_); rintro e wa ⟨rfl, hba⟩; have hac := bc hba; have haf := bf hba; have haz := hba.size; try simp only [World.size_alloc, World.size_drew] at haz) | (go_at_call 58; (with_reducible refine (len_any _ _ _ _).mono ?_); rintro e wb ⟨rfl, hbb⟩; have hbc := bc hbb; have hbf := bf hbb; have hbz := hbb.size; try simp only [World.size_alloc, World.size_drew] at hbz)))); refine HK_.out _ _ (wld_ofA) ?_; clear HK_
          (refine tree_run (by simp only [List.getElem?_toArray, List.getElem?_cons_succ, List.getElem?_cons_zero]; rfl) (by rfl) (by rfl) (fun K_ hK_ => ?_); have HK_ := Lib.hid hK_; clear hK_; (first | ((refine wpMakeO _ _ 34 rfl V.heap.size 3 (.int .i64 0) 1 8 Try.underlying34 info_intF m rfl rfl (by omega) (by unfold maxLen; omega) (by first | omega | (simp; omega)) ?_; intro w4 hown hb4; have hz4 := hb4.size; have h4c := bc hb4; have h4f := bf hb4; (try simp only [World.size_alloc, World.size_drew] at hz4); have HO := Lib.hid hown; clear hown; (try dsimp only [Act.put]); (try simp only [List.setIfInBounds_toArray, List.set_cons_succ, List.set_cons_zero]))) | (go_wp2_with (first | (go_at_call 46; (with_reducible refine (H0.out _ (HB.out.trans (Below.mono (w := V) (by exact blw) HB.out.size))).mono ?_); rintro e wa ⟨rfl, hba⟩; have hac := bc hba; have haf := bf hba; have haz := hba.size; try simp only [World.size_alloc, World.size_drew] at haz) | (go_at_call 58; (with_reducible refine (len_any _ _ _ _).mono ?_); rintro e wb ⟨rfl, hbb⟩; have hbc := bc hbb; have hbf := bf hbb; have hbz := hbb.size; try simp only [World.size_alloc, World.size_drew] at hbz)))); refine HK_.out _ _ (wld_ofA) ?_; clear HK_)
          (refine tree_quiet (by simp only [List.getElem?_toArray, List.getElem?_cons_succ, List.getElem?_cons_zero]; rfl) (by rfl) (by rfl) (fun K_ hK_ => ?_); go_big_quiet_op; refine hK_ _ ?_; clear hK_ K_)
          (refine tree_run (by simp only [List.getElem?_toArray, List.getElem?_cons_succ, List.getElem?_cons_zero]; rfl) (by rfl) (by rfl) (fun K_ hK_ => ?_); have HK_ := Lib.hid hK_; clear hK_; (first | ((refine wpMakeO _ _ 34 rfl V.heap.size 3 (.int .i64 0) 1 8 Try.underlying34 info_intF m rfl rfl (by omega) (by unfold maxLen; omega) (by first | omega | (simp; omega)) ?_; intro w4 hown hb4; have hz4 := hb4.size; have h4c := bc hb4; have h4f := bf hb4; (try simp only [World.size_alloc, World.size_drew] at hz4); have HO := Lib.hid hown; clear hown; (try dsimp only [Act.put]); (try simp only [List.setIfInBounds_toArray, List.set_cons_succ, List.set_cons_zero]))) | (go_wp2_with (first | (go_at_call 46; (with_reducible refine (H0.out _ (HB.out.trans (Below.mono (w := V) (by exact blw) HB.out.size))).mono ?_); rintro e wa ⟨rfl, hba⟩; have hac := bc hba; have haf := bf hba; have haz := hba.size; try simp only [World.size_alloc, World.size_drew] at haz) | (go_at_call 58; (with_reducible refine (len_any _ _ _ _).mono ?_); rintro e wb ⟨rfl, hbb⟩; have hbc := bc hbb; have hbf := bf hbb; have hbz := hbb.size; try simp only [World.size_alloc, World.size_drew] at hbz)))); refine HK_.out _ _ (wld_ofA) ?_; clear HK_)
          refine tree_nil ?_
          refine leaf_vals [5,13,14] (fun x U => FLeaf V ty m (x 5) (x 13) U) (by rfl) (by first | (simp only [blank, List.setIfInBounds_toArray, List.set_cons_succ, List.set_cons_zero]; rfl) | simp only [blank, List.setIfInBounds_toArray, List.set_cons_succ, List.set_cons_zero]) (hfin_ ()) ?_
          (simp only [World.size_alloc, World.size_drew, made_int] at HO; first | (with_reducible refine fleaf_new ?_ ?_ ?_ ?_) | (with_reducible refine fleaf_mk (z0 := .int .i64 0) (z1 := .bool false) (z2 := .int .i64 0) (z3 := .slice none 0 0) ?_ ?_ ?_ ?_ ?_ ?_)) <;> first | rfl | (simp only [World.size_alloc, World.size_drew]; rfl) | (with_reducible exact blw) | (with_reducible exact below_new (by assumption)) | (with_reducible exact below_new (bthen (by assumption) (by assumption))) | (with_reducible exact below_new (bthen (bthen (by assumption) (by assumption)) (by assumption))) | (with_reducible exact below_newd (by assumption)) | (with_reducible exact below_newd (bthen (by assumption) (by assumption))) | (with_reducible exact below_newd (bthen (bthen (by assumption) (by assumption)) (by assumption))) | (with_reducible exact HO.out) | omega
      · have HK_ := Lib.hid hK_; clear hK_; (first | ((refine wpMakeO _ _ 34 rfl V.heap.size 3 (.int .i64 0) 1 8 Try.underlying34 info_intF m rfl rfl (by omega) (by unfold maxLen; omega) (by first | omega | (simp; omega)) ?_; intro w4 hown hb4; have hz4 := hb4.size; have h4c := bc hb4; have h4f := bf hb4; (try simp only [World.size_alloc, World.size_drew] at hz4); have HO := Lib.hid hown; clear hown; (try dsimp only [Act.put]); (try simp only [List.setIfInBounds_toArray, List.set_cons_succ, List.set_cons_zero]))) | (go_wp2_with (first | (go_at_call 46; (with_reducible refine (H0.out _ (HB.out.trans (Below.mono (w := V) (by exact blw) HB.out.size))).mono ?_); rintro e wa ⟨rfl, hba⟩; have hac := bc hba; have haf := bf hba; have haz := hba.size; try simp only [World.size_alloc, World.size_drew] at haz) | (go_at_call 58; (with_reducible refine (len_any _ _ _ _).mono ?_); rintro e wb ⟨rfl, hbb⟩; have hbc := bc hbb; have hbf := bf hbb; have hbz := hbb.size; try simp only [World.size_alloc, World.size_drew] at hbz)))); refine HK_.out _ _ (wld_ofA) ?_; clear HK_
        (refine tree_run (by simp only [List.getElem?_toArray, List.getElem?_cons_succ, List.getElem?_cons_zero]; rfl) (by rfl) (by rfl) (fun K_ hK_ => ?_); have HK_ := Lib.hid hK_; clear hK_; (first | ((refine wpMakeO _ _ 34 rfl V.heap.size 3 (.int .i64 0) 1 8 Try.underlying34 info_intF m rfl rfl (by omega) (by unfold maxLen; omega) (by first | omega | (simp; omega)) ?_; intro w4 hown hb4; have hz4 := hb4.size; have h4c := bc hb4; have h4f := bf hb4; (try simp only [World.size_alloc, World.size_drew] at hz4); have HO := Lib.hid hown; clear hown; (try dsimp only [Act.put]); (try simp only [List.setIfInBounds_toArray, List.set_cons_succ, List.set_cons_zero]))) | (go_wp2_with (first | (go_at_call 46; (with_reducible refine (H0.out _ (HB.out.trans (Below.mono (w := V) (by exact blw) HB.out.size))).mono ?_); rintro e wa ⟨rfl, hba⟩; have hac := bc hba; have haf := bf hba; have haz := hba.size; try simp only [World.size_alloc, World.size_drew] at haz) | (go_at_call 58; (with_reducible refine (len_any _ _ _ _).mono ?_); rintro e wb ⟨rfl, hbb⟩; have hbc := bc hbb; have hbf := bf hbb; have hbz := hbb.size; try simp only [World.size_alloc, World.size_drew] at hbz)))); refine HK_.out _ _ (wld_ofA) ?_; clear HK_)
        (refine tree_quiet (by simp only [List.getElem?_toArray, List.getElem?_cons_succ, List.getElem?_cons_zero]; rfl) (by rfl) (by rfl) (fun K_ hK_ => ?_); go_big_quiet_op; refine hK_ _ ?_; clear hK_ K_)
        (refine tree_run (by simp only [List.getElem?_toArray, List.getElem?_cons_succ, List.getElem?_cons_zero]; rfl) (by rfl) (by rfl) (fun K_ hK_ => ?_); have HK_ := Lib.hid hK_; clear hK_; (first | ((refine wpMakeO _ _ 34 rfl V.heap.size 3 (.int .i64 0) 1 8 Try.underlying34 info_intF m rfl rfl (by omega) (by unfold maxLen; omega) (by first | omega | (simp; omega)) ?_; intro w4 hown hb4; have hz4 := hb4.size; have h4c := bc hb4; have h4f := bf hb4; (try simp only [World.size_alloc, World.size_drew] at hz4); have HO := Lib.hid hown; clear hown; (try dsimp only [Act.put]); (try simp only [List.setIfInBounds_toArray, List.set_cons_succ, List.set_cons_zero]))) | (go_wp2_with (first | (go_at_call 46; (with_reducible refine (H0.out _ (HB.out.trans (Below.mono (w := V) (by exact blw) HB.out.size))).mono ?_); rintro e wa ⟨rfl, hba⟩; have hac := bc hba; have haf := bf hba; have haz := hba.size; try simp only [World.size_alloc, World.size_drew] at haz) | (go_at_call 58; (with_reducible refine (len_any _ _ _ _).mono ?_); rintro e wb ⟨rfl, hbb⟩; have hbc := bc hbb; have hbf := bf hbb; have hbz := hbb.size; try simp only [World.size_alloc, World.size_drew] at hbz)))); refine HK_.out _ _ (wld_ofA) ?_; clear HK_)
        (refine tree_quiet (by simp only [List.getElem?_toArray, List.getElem?_cons_succ, List.getElem?_cons_zero]; rfl) (by rfl) (by rfl) (fun K_ hK_ => ?_); go_big_quiet_op; refine hK_ _ ?_; clear hK_ K_)
        (refine tree_run (by simp only [List.getElem?_toArray, List.getElem?_cons_succ, List.getElem?_cons_zero]; rfl) (by rfl) (by rfl) (fun K_ hK_ => ?_); have HK_ := Lib.hid hK_; clear hK_; (first | ((refine wpMakeO _ _ 34 rfl V.heap.size 3 (.int .i64 0) 1 8 Try.underlying34 info_intF m rfl rfl (by omega) (by unfold maxLen; omega) (by first | omega | (simp; omega)) ?_; intro w4 hown hb4; have hz4 := hb4.size; have h4c := bc hb4; have h4f := bf hb4; (try simp only [World.size_alloc, World.size_drew] at hz4); have HO := Lib.hid hown; clear hown; (try dsimp only [Act.put]); (try simp only [List.setIfInBounds_toArray, List.set_cons_succ, List.set_cons_zero]))) | (go_wp2_with (first | (go_at_call 46; (with_reducible refine (H0.out _ (HB.out.trans (Below.mono (w := V) (by exact blw) HB.out.size))).mono ?_); rintro e wa ⟨rfl, hba⟩; have hac := bc hba; have haf := bf hba; have haz := hba.size; try simp only [World.size_alloc, World.size_drew] at haz) | (go_at_call 58; (with_reducible refine (len_any _ _ _ _).mono ?_); rintro e wb ⟨rfl, hbb⟩; have hbc := bc hbb; have hbf := bf hbb; have hbz := hbb.size; try simp only [World.size_alloc, World.size_drew] at hbz)))); refine HK_.out _ _ (wld_ofA) ?_; clear HK_)
        refine tree_nil ?_
        refine leaf_vals [5,13,14] (fun x U => FLeaf V ty m (x 5) (x 13) U) (by rfl) (by first | (simp only [blank, List.setIfInBounds_toArray, List.set_cons_succ, List.set_cons_zero]; rfl) | simp only [blank, List.setIfInBounds_toArray, List.set_cons_succ, List.set_cons_zero]) (hfin_ ()) ?_
        (simp only [World.size_alloc, World.size_drew, made_int] at HO; first | (with_reducible refine fleaf_new ?_ ?_ ?_ ?_) | (with_reducible refine fleaf_mk (z0 := .int .i64 0) (z1 := .bool false) (z2 := .int .i64 0) (z3 := .slice none 0 0) ?_ ?_ ?_ ?_ ?_ ?_)) <;> first | rfl | (simp only [World.size_alloc, World.size_drew]; rfl) | (with_reducible exact blw) | (with_reducible exact below_new (by assumption)) | (with_reducible exact below_new (bthen (by assumption) (by assumption))) | (with_reducible exact below_new (bthen (bthen (by assumption) (by assumption)) (by assumption))) | (with_reducible exact below_newd (by assumption)) | (with_reducible exact below_newd (bthen (by assumption) (by assumption))) | (with_reducible exact below_newd (bthen (bthen (by assumption) (by assumption)) (by assumption))) | (with_reducible exact HO.out) | omega
    · have HK_ := Lib.hid hK_; clear hK_; (first | ((refine wpMakeO _ _ 34 rfl V.heap.size 3 (.int .i64 0) 1 8 Try.underlying34 info_intF m rfl rfl (by omega) (by unfold maxLen; omega) (by first | omega | (simp; omega)) ?_; intro w4 hown hb4; have hz4 := hb4.size; have h4c := bc hb4; have h4f := bf hb4; (try simp only [World.size_alloc, World.size_drew] at hz4); have HO := Lib.hid hown; clear hown; (try dsimp only [Act.put]); (try simp only [List.setIfInBounds_toArray, List.set_cons_succ, List.set_cons_zero]))) | (go_wp2_with (first | (go_at_call 46; (with_reducible refine (H0.out _ (HB.out.trans (Below.mono (w := V) (by exact blw) HB.out.size))).mono ?_); rintro e wa ⟨rfl, hba⟩; have hac := bc hba; have haf := bf hba; have haz := hba.size; try simp only [World.size_alloc, World.size_drew] at haz) | (go_at_call 58; (with_reducible refine (len_any _ _ _ _).mono ?_); rintro e wb ⟨rfl, hbb⟩; have hbc := bc hbb; have hbf := bf hbb; have hbz := hbb.size; try simp only [World.size_alloc, World.size_drew] at hbz)))); refine HK_.out _ _ (wld_ofA) ?_; clear HK_
      (refine tree_run (by simp only [List.getElem?_toArray, List.getElem?_cons_succ, List.getElem?_cons_zero]; rfl) (by rfl) (by rfl) (fun K_ hK_ => ?_); have HK_ := Lib.hid hK_; clear hK_; (first | ((refine wpMakeO _ _ 34 rfl V.heap.size 3 (.int .i64 0) 1 8 Try.underlying34 info_intF m rfl rfl (by omega) (by unfold maxLen; omega) (by first | omega | (simp; omega)) ?_; intro w4 hown hb4; have hz4 := hb4.size; have h4c := bc hb4; have h4f := bf hb4; (try simp only [World.size_alloc, World.size_drew] at hz4); have HO := Lib.hid hown; clear hown; (try dsimp only [Act.put]); (try simp only [List.setIfInBounds_toArray, List.set_cons_succ, List.set_cons_zero]))) | (go_wp2_with (first | (go_at_call 46; (with_reducible refine (H0.out _ (HB.out.trans (Below.mono (w := V) (by exact blw) HB.out.size))).mono ?_); rintro e wa ⟨rfl, hba⟩; have hac := bc hba; have haf := bf hba; have haz := hba.size; try simp only [World.size_alloc, World.size_drew] at haz) | (go_at_call 58; (with_reducible refine (len_any _ _ _ _).mono ?_); rintro e wb ⟨rfl, hbb⟩; have hbc := bc hbb; have hbf := bf hbb; have hbz := hbb.size; try simp only [World.size_alloc, World.size_drew] at hbz)))); refine HK_.out _ _ (wld_ofA) ?_; clear HK_)
      (refine tree_run (by simp only [List.getElem?_toArray, List.getElem?_cons_succ, List.getElem?_cons_zero]; rfl) (by rfl) (by rfl) (fun K_ hK_ => ?_); have HK_ := Lib.hid hK_; clear hK_; (first | ((refine wpMakeO _ _ 34 rfl V.heap.size 3 (.int .i64 0) 1 8 Try.underlying34 info_intF m rfl rfl (by omega) (by unfold maxLen; omega) (by first | omega | (simp; omega)) ?_; intro w4 hown hb4; have hz4 := hb4.size; have h4c := bc hb4; have h4f := bf hb4; (try simp only [World.size_alloc, World.size_drew] at hz4); have HO := Lib.hid hown; clear hown; (try dsimp only [Act.put]); (try simp only [List.setIfInBounds_toArray, List.set_cons_succ, List.set_cons_zero]))) | (go_wp2_with (first | (go_at_call 46; (with_reducible refine (H0.out _ (HB.out.trans (Below.mono (w := V) (by exact blw) HB.out.size))).mono ?_); rintro e wa ⟨rfl, hba⟩; have hac := bc hba; have haf := bf hba; have haz := hba.size; try simp only [World.size_alloc, World.size_drew] at haz) | (go_at_call 58; (with_reducible refine (len_any _ _ _ _).mono ?_); rintro e wb ⟨rfl, hbb⟩; have hbc := bc hbb; have hbf := bf hbb; have hbz := hbb.size; try simp only [World.size_alloc, World.size_drew] at hbz)))); refine HK_.out _ _ (wld_ofA) ?_; clear HK_)
      (refine tree_quiet (by simp only [List.getElem?_toArray, List.getElem?_cons_succ, List.getElem?_cons_zero]; rfl) (by rfl) (by rfl) (fun K_ hK_ => ?_); go_big_quiet_op; refine hK_ _ ?_; clear hK_ K_)
      (refine tree_run (by simp only [List.getElem?_toArray, List.getElem?_cons_succ, List.getElem?_cons_zero]; rfl) (by rfl) (by rfl) (fun K_ hK_ => ?_); have HK_ := Lib.hid hK_; clear hK_; (first | ((refine wpMakeO _ _ 34 rfl V.heap.size 3 (.int .i64 0) 1 8 Try.underlying34 info_intF m rfl rfl (by omega) (by unfold maxLen; omega) (by first | omega | (simp; omega)) ?_; intro w4 hown hb4; have hz4 := hb4.size; have h4c := bc hb4; have h4f := bf hb4; (try simp only [World.size_alloc, World.size_drew] at hz4); have HO := Lib.hid hown; clear hown; (try dsimp only [Act.put]); (try simp only [List.setIfInBounds_toArray, List.set_cons_succ, List.set_cons_zero]))) | (go_wp2_with (first | (go_at_call 46; (with_reducible refine (H0.out _ (HB.out.trans (Below.mono (w := V) (by exact blw) HB.out.size))).mono ?_); rintro e wa ⟨rfl, hba⟩; have hac := bc hba; have haf := bf hba; have haz := hba.size; try simp only [World.size_alloc, World.size_drew] at haz) | (go_at_call 58; (with_reducible refine (len_any _ _ _ _).mono ?_); rintro e wb ⟨rfl, hbb⟩; have hbc := bc hbb; have hbf := bf hbb; have hbz := hbb.size; try simp only [World.size_alloc, World.size_drew] at hbz)))); refine HK_.out _ _ (wld_ofA) ?_; clear HK_)
      (refine tree_quiet (by simp only [List.getElem?_toArray, List.getElem?_cons_succ, List.getElem?_cons_zero]; rfl) (by rfl) (by rfl) (fun K_ hK_ => ?_); go_big_quiet_op; refine hK_ _ ?_; clear hK_ K_)
      (refine tree_run (by simp only [List.getElem?_toArray, List.getElem?_cons_succ, List.getElem?_cons_zero]; rfl) (by rfl) (by rfl) (fun K_ hK_ => ?_); have HK_ := Lib.hid hK_; clear hK_; (first | ((refine wpMakeO _ _ 34 rfl V.heap.size 3 (.int .i64 0) 1 8 Try.underlying34 info_intF m rfl rfl (by omega) (by unfold maxLen; omega) (by first | omega | (simp; omega)) ?_; intro w4 hown hb4; have hz4 := hb4.size; have h4c := bc hb4; have h4f := bf hb4; (try simp only [World.size_alloc, World.size_drew] at hz4); have HO := Lib.hid hown; clear hown; (try dsimp only [Act.put]); (try simp only [List.setIfInBounds_toArray, List.set_cons_succ, List.set_cons_zero]))) | (go_wp2_with (first | (go_at_call 46; (with_reducible refine (H0.out _ (HB.out.trans (Below.mono (w := V) (by exact blw) HB.out.size))).mono ?_); rintro e wa ⟨rfl, hba⟩; have hac := bc hba; have haf := bf hba; have haz := hba.size; try simp only [World.size_alloc, World.size_drew] at haz) | (go_at_call 58; (with_reducible refine (len_any _ _ _ _).mono ?_); rintro e wb ⟨rfl, hbb⟩; have hbc := bc hbb; have hbf := bf hbb; have hbz := hbb.size; try simp only [World.size_alloc, World.size_drew] at hbz)))); refine HK_.out _ _ (wld_ofA) ?_; clear HK_)
      refine tree_nil ?_
      refine leaf_vals [5,13,14] (fun x U => FLeaf V ty m (x 5) (x 13) U) (by rfl) (by first | (simp only [blank, List.setIfInBounds_toArray, List.set_cons_succ, List.set_cons_zero]; rfl) | simp only [blank, List.setIfInBounds_toArray, List.set_cons_succ, List.set_cons_zero]) (hfin_ ()) ?_
      (simp only [World.size_alloc, World.size_drew, made_int] at HO; first | (with_reducible refine fleaf_new ?_ ?_ ?_ ?_) | (with_reducible refine fleaf_mk (z0 := .int .i64 0) (z1 := .bool false) (z2 := .int .i64 0) (z3 := .slice none 0 0) ?_ ?_ ?_ ?_ ?_ ?_)) <;> first | rfl | (simp only [World.size_alloc, World.size_drew]; rfl) | (with_reducible exact blw) | (with_reducible exact below_new (by assumption)) | (with_reducible exact below_new (bthen (by assumption) (by assumption))) | (with_reducible exact below_new (bthen (bthen (by assumption) (by assumption)) (by assumption))) | (with_reducible exact below_newd (by assumption)) | (with_reducible exact below_newd (bthen (by assumption) (by assumption))) | (with_reducible exact below_newd (bthen (bthen (by assumption) (by assumption)) (by assumption))) | (with_reducible exact HO.out) | omega
  intro x U ⟨g, h, e5, e13, hU, ho, hbU, hgV⟩
  simp only [fill, List.setIfInBounds_toArray, List.set_cons_succ, List.set_cons_zero]
  rw [e5, e13]
  have HU := Lib.hid hU
  have HO := Lib.hid (owns_eq ho (partS_zero sb m).symm)
  have HBU := Lib.hid hbU
  have hzU := hbU.size
  have u5 := cell_of_heap hU 3
  simp only [featC, List.getElem?_toArray, List.getElem?_cons_succ, List.getElem?_cons_zero] at u5
  have lU := cell_lt u5
  simp only at lU
  have HNE := Lib.hid (own_neE ho hU (by decide))
  clear hU ho hbU e5 e13
  go_wp2_with fail
  go_loopw [18] (FRelB V g h ty m sb) (fun i _ => m - (intOf i).toNat)
  case atStart => exact ⟨0, Nat.zero_le _, rfl, HO.out, HU.out, HBU.out⟩
  case round =>
    obtain ⟨j, hj, rfl, ho, hg, hb⟩ := hrel
    have HOR := Lib.hid ho
    have HGR := Lib.hid hg
    have HBR := Lib.hid hb
    have hzr := hb.size
    have r3 := (hb.cell (p := ⟨w.heap.size + 1, 0, none⟩) hl3).trans c3
    have r2 := (hb.cell (p := ⟨w.heap.size, 0, none⟩) hl2).trans c2
    have r5 := fun o => cell_of_heap hg o
    simp only [featC] at r5
    have f5 := fun o => froz_of_heap hg o
    have l5 := (Array.getElem?_eq_some_iff.1 hg).1
    have l3r : w.heap.size + 1 < wr.heap.size := by omega
    have l2r : w.heap.size < wr.heap.size := by omega
    have lh := HOR.out.lt _ rfl
    clear ho hg hb u5
    by_cases hlt : j < m
    · obtain ⟨x0, hx0⟩ := own_cell HOR.out (j := j) (by omega)
      have hF := fun i => World.ownsRow.frozenAt HOR.out i
      have HSET := Lib.hid (partS_set sb m j hlt)
      have HSJ := Lib.hid (fun W (hW : Below wr.heap.size wr W) => HS.out j ((j : Int) * 4) (by omega) hlt W (HB.out.trans (HBR.out.mono HB.out.size |>.trans (hW.mono (by omega)))))
      have hv := num2_lt sb (4 * j)
      generalize num sb (4 * j) 2 = v at *
      go_wp2_with fail
      refine wp_region_last (.step 0 (.step 1 (.step 2 (.step 3 (.step 4 (.step 5 (.step 6 (.step 7 (.step 8 .nil))))))))) 8 (by kernel_rfl) (by kernel_rfl) (by kernel_rfl) (by kernel_rfl) (by kernel_rfl) (by intro _ _ d_ _ _ h_; cases d_ <;> first | exact h_ | (dsimp +zetaDelta only at h_ ⊢; exact h_)) (fun w' => ∃ p : Wld wr [], w' = p.val) (wld_start _ _) ?_
      have hG_ := @wldC wr
      (refine z_quiet (by simp only [List.getElem?_toArray, List.getElem?_cons_succ, List.getElem?_cons_zero]; rfl) (by rfl) (by rfl) (fun K_ hK_ => ?_); go_big_quiet_op; refine hK_ _ ?_; clear hK_ K_)
      (refine z_quiet (by simp only [List.getElem?_toArray, List.getElem?_cons_succ, List.getElem?_cons_zero]; rfl) (by rfl) (by rfl) (fun K_ hK_ => ?_); go_big_quiet_op; refine hK_ _ ?_; clear hK_ K_)
      (refine z_quiet (by simp only [List.getElem?_toArray, List.getElem?_cons_succ, List.getElem?_cons_zero]; rfl) (by rfl) (by rfl) (fun K_ hK_ => ?_); go_big_quiet_op; refine hK_ _ ?_; clear hK_ K_)
      (refine z_quiet (by simp only [List.getElem?_toArray, List.getElem?_cons_succ, List.getElem?_cons_zero]; rfl) (by rfl) (by rfl) (fun K_ hK_ => ?_); go_big_quiet_op; refine hK_ _ ?_; clear hK_ K_)
      (refine z_quiet (by simp only [List.getElem?_toArray, List.getElem?_cons_succ, List.getElem?_cons_zero]; rfl) (by rfl) (by rfl) (fun K_ hK_ => ?_); go_big_quiet_op; refine hK_ _ ?_; clear hK_ K_)
      (refine z_quiet (by simp only [List.getElem?_toArray, List.getElem?_cons_succ, List.getElem?_cons_zero]; rfl) (by rfl) (by rfl) (fun K_ hK_ => ?_); go_big_quiet_op; refine hK_ _ ?_; clear hK_ K_)
      (refine z_run (by simp only [List.getElem?_toArray, List.getElem?_cons_succ, List.getElem?_cons_zero]; rfl) (by rfl) (by rfl) (fun K_ hK_ => ?_); have HK_ := Lib.hid hK_; clear hK_; go_wp2_with ((go_at_call 46; (with_reducible refine (HSJ.out _ (by exact blw)).mono ?_); rintro e w7 ⟨rfl, hb7⟩; have h7c := bc hb7; have h7f := bf hb7; have h7z := hb7.size; try simp only [World.size_alloc, World.size_drew] at h7z)); refine HK_.out _ _ (wld_ofA) ?_; clear HK_)
      (refine z_quiet (by simp only [List.getElem?_toArray, List.getElem?_cons_succ, List.getElem?_cons_zero]; rfl) (by rfl) (by rfl) (fun K_ hK_ => ?_); go_big_quiet_op; refine hK_ _ ?_; clear hK_ K_)
      (refine z_last (by simp only [List.getElem?_toArray, List.getElem?_cons_succ, List.getElem?_cons_zero]; rfl) (by rfl) (by rfl) (by rfl) (fun K_ hK_ => ?_); have HK_ := Lib.hid hK_; clear hK_; go_wp2_with ((go_at_call 46; (with_reducible refine (HSJ.out _ (by exact blw)).mono ?_); rintro e w7 ⟨rfl, hb7⟩; have h7c := bc hb7; have h7f := bf hb7; have h7z := hb7.size; try simp only [World.size_alloc, World.size_drew] at h7z)); refine HK_.out _ _ ?_; clear HK_)
      refine z_nil ?_
      clear hG_
      have hb7' : Below wr.heap.size wr w7 := by exact blw
      have HB7 := Lib.hid hb7'
      have hgh : g ≠ h := by have := HNE.out; simpa [Value.ownBlock] using this
      clear hb7 hb7' h7c h7f
      go_wp2_with fail
      go_roundw
      case rel =>
        refine ⟨j + 1, hlt, by go_num, ?_, ?_, ?_⟩
        · exact owns_eq ((owns_below HOR.out HB7.out (Nat.le_refl _)).stored j _).1 HSET.out
        · exact (set_heap_other _ hgh).trans ((HB7.out.block g l5).trans HGR.out)
        · exact (HBR.out.trans (HB7.out.mono hzr)).setCell (p := ⟨h, j, none⟩) lh.1 _
      case measure => simp [intOf]; omega
    · obtain rfl : m = j := by omega
      have h4 := (HBR.out.block _ (Array.getElem?_eq_some_iff.1 Z4.out).1).trans Z4.out
      have HOA := Lib.hid (owns_eq HOR.out (partS_all sb m))
      have h15 := and_b15 fl hfl
      have hgne : w.heap.size + 2 ≠ g := by have := HZV.out; omega
      have hgne' : g ≠ w.heap.size + 2 := fun hx => hgne hx.symm
      clear HS HO HU HOR
      go_wp2_with fail
      refine (H8.out _ (HB.out.trans (HBR.out.mono HB.out.size))).mono ?_
      rintro e w8 ⟨rfl, hb8⟩
      have g8 := (hb8.block g l5).trans HGR.out
      have h8 := (hb8.block _ (Array.getElem?_eq_some_iff.1 h4).1).trans h4
      have p5 := fun o => cell_of_heap g8 o
      have p4 := fun o => cell_of_heap h8 o
      have pf5 := fun o => froz_of_heap g8 o
      have pf4 := fun o => froz_of_heap h8 o
      have pl5 := (Array.getElem?_eq_some_iff.1 g8).1
      have pl4 := (Array.getElem?_eq_some_iff.1 h8).1
      simp only [featC] at p5
      have HB8 := Lib.hid hb8
      have HOW := Lib.hid (owns_below HOA.out hb8 (Nat.le_refl _))
      have HBW := Lib.hid (HB.out.trans ((HBR.out.trans (hb8.mono hzr)).mono HB.out.size))
      have hne5 := HNE.out
      have hne4 : some (w.heap.size + 2) ≠ (Value.slice (some ⟨h, 0, none⟩) m m).ownBlock := by
        have := HZV.out
        simp only [Value.ownBlock, ne_eq, Option.some.injEq]
        omega
      have hwg : w.heap.size ≤ g := Nat.le_trans HB.out.size hgV
      have hw4 : w.heap.size ≤ w.heap.size + 1 + 1 := by omega
      cases hb15 : bt fl 15 with
      | true =>
        rw [hb15] at h15
        have HO9 := Lib.hid (set_owns (o := 1) (.bool true) (owns_below HOA.out hb8 (Nat.le_refl _)) (own_neE (owns_below HOA.out hb8 (Nat.le_refl _)) g8 (by decide)))
        have H9 := Lib.hid (set_heap_at (o := 1) (.bool true) g8)
        have HFA := Lib.hid (first_any (some ⟨h, 0, none⟩) m m fl sb (w8.setCell ⟨g, 1, none⟩ (.bool true)) (has_of_owns HO9.out) hfl hm)
        generalize hR : firstF sb m fl = R at *
        have HR := Lib.hid hR
        clear hR
        clear g8 h8 hb8 h4 r5 r3 r2 f5 l3r l2r c2 c3 hl2 hl3 hdiv hdiv2
        go_wp2_with (first | (go_at_call 59; (with_reducible refine (HFA.out).mono ?_); rintro e w_ ⟨rfl, rfl⟩))
        refine bodyPost_ret (v := .agg (featC ty true R (.slice (some ⟨h, 0, none⟩) m m))) (by simp [results, Try.results49, go_sem, p5, p4, featC, pf4, pf5, pl4, pl5, hgne, hgne']) rfl ?_
        refine ⟨h, by rw [dfF, hb15]; rw [if_pos rfl, HR.out], ?_, ?_⟩
        · refine owns_mono ?_ HB.out.size
          repeat (first | with_reducible exact HOW.out | refine set_owns _ ?_ hne5 | refine set_owns _ ?_ hne4)
        · repeat (first | with_reducible exact HBW.out | refine bset ?_ hwg _ | refine bset ?_ hw4 _)
      | false =>
        rw [hb15] at h15
        have HO9 := Lib.hid (set_owns (o := 1) (.bool false) (owns_below HOA.out hb8 (Nat.le_refl _)) (own_neE (owns_below HOA.out hb8 (Nat.le_refl _)) g8 (by decide)))
        have H9 := Lib.hid (set_heap_at (o := 1) (.bool false) g8)
        clear g8 h8 hb8 h4 r5 r3 r2 f5 l3r l2r c2 c3 hl2 hl3 hdiv hdiv2
        go_wp2_with fail
        refine bodyPost_ret (v := .agg (featC ty false (-1) (.slice (some ⟨h, 0, none⟩) m m))) (by simp [results, Try.results49, go_sem, p5, p4, featC, pf4, pf5, pl4, pl5, hgne, hgne']) rfl ?_
        refine ⟨h, by rw [dfF, hb15]; rfl, ?_, ?_⟩
        · refine owns_mono ?_ HB.out.size
          repeat (first | with_reducible exact HOW.out | refine set_owns _ ?_ hne5 | refine set_owns _ ?_ hne4)
        · repeat (first | with_reducible exact HBW.out | refine bset ?_ hwg _ | refine bset ?_ hw4 _)
end Go.Proofs.Ytfnghinefbmlmaa
