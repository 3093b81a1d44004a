
/- (*Table).add: a part above those that there are is put behind them. Conditions: a table in memory whose block is above the base; numbers within bounds. -/
import Derived.Test.YthjnpfhcjacibaaLAdd
namespace Go.Proofs.Ythjnpfhcjacibaa
open Go.RowKit Go.Lib

/-- All below B, and all blocks but the table, rows of parts, and rows of numbers, are as they were. -/
structure LKeep (B g : Nat) (w w' : World) : Prop where
  below : Below B w w'
  size : w.heap.size ≤ w'.heap.size
  kept : ∀ (k : Nat) (cs : Array Value) (t : Nat) (fz : Nat × Nat), w.heap[k]? = some (.cells cs t fz) → t ≠ 66 → t ≠ 74 → k ≠ g → w'.heap[k]? = w.heap[k]?
theorem LKeep.refl (B g : Nat) (w : World) : LKeep B g w w := ⟨Below.refl _ _, Nat.le_refl _, fun _ _ _ _ _ _ _ _ => rfl⟩
theorem LKeep.trans {B g : Nat} {a b c : World} (h : LKeep B g a b) (k : LKeep B g b c) : LKeep B g a c :=
  ⟨h.below.trans k.below, Nat.le_trans h.size k.size, fun x cs t fz hx h1 h2 h3 => (k.kept x cs t fz ((h.kept x cs t fz hx h1 h2 h3).trans hx) h1 h2 h3).trans (h.kept x cs t fz hx h1 h2 h3)⟩
theorem LKeep.of {B g : Nat} {w w' : World} (h : Below w.heap.size w w') (hB : B ≤ w.heap.size) : LKeep B g w w' :=
  ⟨h.mono hB, h.size, fun k _ _ _ hk _ _ _ => h.block k (Array.getElem?_eq_some_iff.1 hk).1⟩
theorem LKeep.ofE {B g : Nat} {e : TypeId} {w w' : World} (h : Below B w w') (hk : KeptE e w w') (he : e = 66 ∨ e = 74) : LKeep B g w w' :=
  ⟨h, hk.1, fun k cs t fz hx h1 h2 _ => hk.2 k cs t fz hx (by rcases he with rfl | rfl <;> assumption)⟩
theorem LKeep.set {B g o : Nat} {w w' : World} (h : LKeep B g w w') (hB : B ≤ g) (v : Value) : LKeep B g w (w'.setCell ⟨g, o, none⟩ v) :=
  ⟨h.below.setCell (p := ⟨g, o, none⟩) hB v, by simpa using h.size, fun k cs t fz hx h1 h2 h3 => (set_heap_other v h3).trans (h.kept k cs t fz hx h1 h2 h3)⟩
theorem part_info : (Try.prog.info? 66).map (fun i => (i.zero, i.size, i.bytes)) = some (some (.agg #[.int .i64 0, .int .i64 0, .int .i64 0, .int .i64 0]), 4, 32) := by kernel_rfl
theorem u32_info : (Try.prog.info? 74).map (fun i => (i.zero, i.size, i.bytes)) = some (some (.int .u32 0), 1, 4) := by kernel_rfl
theorem partsL_snoc (ps : List PartL) (p : PartL) : partsL ps ++ p.enc = partsL (ps ++ [p]) := by simp [partsL]
theorem u32V_snoc (ns : List Nat) (n : Nat) : u32V ns ++ [.int .u32 (n : Nat)] = u32V (ns ++ [n]) := by simp [u32V]
theorem add_tail {B g fmt : Nat} {ps : List PartL} {ns : List Nat} {a3 ap an : Option Addr} {c3 cp cn : Nat} {p : PartL} {w w3 : World} (h0 : w.heap[g]? = some (.cells #[.int .i64 (fmt : Nat), .slice ap ps.length cp, .slice an ns.length cn] 64 (0, 0)))
    (ho : w3.ownsRow B 66 4 (.slice a3 (ps.length + 1) c3) (ps.length + 1) (partsL ps ++ p.enc)) (h2 : w.ownsRow B 74 1 (.slice an ns.length cn) ns.length (u32V ns)) (hk : KeptE 66 w w3) (hB : B ≤ g) (hb : Below B w w3) :
    TabIs B g fmt (ps ++ [p]) ns (w3.setCell ⟨g, 1, none⟩ (.slice a3 (ps.length + 1) c3)) ∧ LKeep B g w (w3.setCell ⟨g, 1, none⟩ (.slice a3 (ps.length + 1) c3)) := by
  have hw3 := (hk.2 g _ _ _ h0 (by decide)).trans h0
  have h2' := hk.owns h2 (by decide)
  refine ⟨⟨a3, c3, an, cn, ?_, ?_, ?_⟩, (LKeep.ofE hb hk (.inl rfl)).set hB _⟩
  · rw [set_heap_at _ hw3, List.length_append]; rfl
  · rw [List.length_append, ← partsL_snoc]
    exact set_owns _ ho (own_neE ho hw3 (by decide))
  · exact set_owns _ h2' (own_neE h2' hw3 (by decide))
set_option maxRecDepth 100000 in
set_option maxHeartbeats 1600000 in
theorem add_ok (B g fmt : Nat) (ps : List PartL) (ns : List Nat) (f l st : Nat) (zf zl zs : Int) (hzf : zf = (f : Nat)) (hzl : zl = (l : Nat)) (hzs : zs = (st : Nat)) (w : World) (h : TabIs B g fmt ps ns w) (hB : B ≤ g) (hl : ps.length ≤ 1000000) (hn : ns.length ≤ 100000000) (hyes : CanAdd ps (f : Nat) (l : Nat)) :
    Calls Try.prog 37 #[.pointer (some ⟨g, 0, none⟩), .int .i64 zf, .int .i64 zl, .int .i64 zs] w fun e w' => e = .returned (.tuple #[]) ∧ TabIs B g fmt (ps ++ [⟨f, l, ns.length, st⟩]) ns w' ∧ LKeep B g w w' := by
  have hAC := allocC
  have hAF := allocF
  subst hzf hzl hzs
  obtain ⟨hfl, hlast⟩ := hyes
  obtain ⟨ap, cp, an, cn, h0, h1, h2⟩ := h.is
  have hg := (Array.getElem?_eq_some_iff.1 h0).1
  have c1 := cell_of_heap h0 1
  have c2 := cell_of_heap h0 2
  simp only [List.getElem?_toArray, List.getElem?_cons_succ, List.getElem?_cons_zero] at c1 c2
  have hd : decide (f ≤ l) = true := by simp; omega
  have hdi : decide ((f : Int) ≤ (l : Int)) = true := by simp; omega
  have H1 := Lib.hid h1
  have H2 := Lib.hid h2
  by_cases hL0 : ps.length = 0
  · have hLz : ((ps.length : Int) == 0) = true := by rw [beq_iff_eq]; omega
    clear h h1 h2 hlast hL0
    generalize hLL : ps.length = L at *
    generalize hNN : ns.length = M at *
    have HLL := Lib.hid hLL
    have HNN := Lib.hid hNN
    clear hLL hNN
    go_enter Try.func37, Try.ntmps37
    go_wp2_with (first | (go_at_call 18; refine (need_true _).mono ?_; rintro e wa ⟨rfl, rfl⟩))
    refine wp_region_last (.step 0 (.step 1 (.step 2 (.step 3 (.step 4 (.step 5 (.step 6 (.step 7 (.step 8 (.step 9 (.step 10 (.step 11 (.step 12 (.step 13 (.step 14 (.step 15 (.step 16 (.step 17 (.step 18 .nil))))))))))))))))))) 18 (by kernel_rfl) (by kernel_rfl) (by kernel_rfl) (by kernel_rfl) (by kernel_rfl) (by intro _ _ d_ _ _ h_; cases d_ <;> first | exact h_ | (dsimp +zetaDelta only at h_ ⊢; exact h_)) (fun w' => ∃ p : KepE 66 wa, w' = p.val) (kepE_start _ _) ?_
    have hK0_ := fun (p : KepE 66 wa) (o : Nat) => p.is.cell h0 (by decide) o
    (refine z_quiet (by simp only [List.getElem?_toArray, List.getElem?_cons_succ, List.getElem?_cons_zero]; rfl) (by rfl) (by rfl) (fun K_ hK_ => ?_); go_big_quiet_op; refine hK_ _ ?_; clear hK_ K_)
    (refine z_quiet (by simp only [List.getElem?_toArray, List.getElem?_cons_succ, List.getElem?_cons_zero]; rfl) (by rfl) (by rfl) (fun K_ hK_ => ?_); go_big_quiet_op; refine hK_ _ ?_; clear hK_ K_)
    (refine z_quiet (by simp only [List.getElem?_toArray, List.getElem?_cons_succ, List.getElem?_cons_zero]; rfl) (by rfl) (by rfl) (fun K_ hK_ => ?_); go_big_quiet_op; refine hK_ _ ?_; clear hK_ K_)
    (refine z_quiet (by simp only [List.getElem?_toArray, List.getElem?_cons_succ, List.getElem?_cons_zero]; rfl) (by rfl) (by rfl) (fun K_ hK_ => ?_); go_big_quiet_op; refine hK_ _ ?_; clear hK_ K_)
    (refine z_quiet (by simp only [List.getElem?_toArray, List.getElem?_cons_succ, List.getElem?_cons_zero]; rfl) (by rfl) (by rfl) (fun K_ hK_ => ?_); go_big_quiet_op; refine hK_ _ ?_; clear hK_ K_)
    (refine z_quiet (by simp only [List.getElem?_toArray, List.getElem?_cons_succ, List.getElem?_cons_zero]; rfl) (by rfl) (by rfl) (fun K_ hK_ => ?_); go_big_quiet_op; refine hK_ _ ?_; clear hK_ K_)
    (refine z_quiet (by simp only [List.getElem?_toArray, List.getElem?_cons_succ, List.getElem?_cons_zero]; rfl) (by rfl) (by rfl) (fun K_ hK_ => ?_); go_big_quiet_op; refine hK_ _ ?_; clear hK_ K_)
    (refine z_quiet (by simp only [List.getElem?_toArray, List.getElem?_cons_succ, List.getElem?_cons_zero]; rfl) (by rfl) (by rfl) (fun K_ hK_ => ?_); go_big_quiet_op; refine hK_ _ ?_; clear hK_ K_)
    (refine z_quiet (by simp only [List.getElem?_toArray, List.getElem?_cons_succ, List.getElem?_cons_zero]; rfl) (by rfl) (by rfl) (fun K_ hK_ => ?_); go_big_quiet_op; refine hK_ _ ?_; clear hK_ K_)
    (refine z_quiet (by simp only [List.getElem?_toArray, List.getElem?_cons_succ, List.getElem?_cons_zero]; rfl) (by rfl) (by rfl) (fun K_ hK_ => ?_); go_big_quiet_op; refine hK_ _ ?_; clear hK_ K_)
    (refine z_quiet (by simp only [List.getElem?_toArray, List.getElem?_cons_succ, List.getElem?_cons_zero]; rfl) (by rfl) (by rfl) (fun K_ hK_ => ?_); go_big_quiet_op; refine hK_ _ ?_; clear hK_ K_)
    (refine z_quiet (by simp only [List.getElem?_toArray, List.getElem?_cons_succ, List.getElem?_cons_zero]; rfl) (by rfl) (by rfl) (fun K_ hK_ => ?_); go_big_quiet_op; refine hK_ _ ?_; clear hK_ K_)
    (refine z_quiet (by simp only [List.getElem?_toArray, List.getElem?_cons_succ, List.getElem?_cons_zero]; rfl) (by rfl) (by rfl) (fun K_ hK_ => ?_); go_big_quiet_op; refine hK_ _ ?_; clear hK_ K_)
    (refine z_quiet (by simp only [List.getElem?_toArray, List.getElem?_cons_succ, List.getElem?_cons_zero]; rfl) (by rfl) (by rfl) (fun K_ hK_ => ?_); go_big_quiet_op; refine hK_ _ ?_; clear hK_ K_)
    (refine z_run (by simp only [List.getElem?_toArray, List.getElem?_cons_succ, List.getElem?_cons_zero]; rfl) (by rfl) (by rfl) (fun K_ hK_ => ?_); have HK_ := Lib.hid hK_; clear hK_; (first | (((refine wpAppO _ _ 61 rfl B 66 (.agg #[.int .i64 0, .int .i64 0, .int .i64 0, .int .i64 0]) 4 32 Try.underlying61 part_info rfl (by decide) _ L (partsL ps) rfl (owns_below H1.out (balloc (bdrew1 (brefl wa)) _) (Nat.le_refl _)) ⟨wa.heap.size, 0, none⟩ 1 1 (PartL.enc ⟨f, l, M, st⟩) rfl rfl (has_alloc _ _ _) (fun u hu => by simp [PartL.enc] at hu; rcases hu with rfl | rfl | rfl | rfl <;> rfl) (by unfold maxLen; omega) (by omega) (by simp; omega) ?_); intro a3 c3 w3 hown3 t31 t32 t33 hb3 hg3; have hk3 := KeptE.grown (owns_below H1.out (balloc (bdrew1 (brefl wa)) _) (Nat.le_refl _)) hg3; have hkw : KeptE 66 wa w3 := ((KeptE.below (bdrew1 (brefl wa))).trans (KeptE.below (balloc (brefl _) _))).trans hk3; have hw3 := (hkw.2 g _ _ _ h0 (by decide)).trans h0; have s1 := cell_of_heap hw3 1; have sf := fun o => froz_of_heap hw3 o; have HO3 := Lib.hid hown3; have HB3 := Lib.hid hb3; have HK3 := Lib.hid hkw; have hz3 := hg3.size; clear hown3 t31 t32 t33 hb3 hg3; dsimp only [Act.put]; simp only [List.setIfInBounds_toArray, List.set_cons_succ, List.set_cons_zero])) | (go_wp2_with (fail))); refine HK_.out _ _ (kepE_of (by repeat (first | exact KeptE.refl _ _ | assumption | refine KeptE.trans ?_ (KeptE.below (bdrew1 (brefl _))) | refine KeptE.trans ?_ (KeptE.below (balloc (brefl _) _)) | refine KeptE.trans ?_ (KeptE.below (by assumption)) | refine KeptE.trans ?_ (by assumption)))) ?_; clear HK_)
    (refine z_run (by simp only [List.getElem?_toArray, List.getElem?_cons_succ, List.getElem?_cons_zero]; rfl) (by rfl) (by rfl) (fun K_ hK_ => ?_); have HK_ := Lib.hid hK_; clear hK_; (first | (((refine wpAppO _ _ 61 rfl B 66 (.agg #[.int .i64 0, .int .i64 0, .int .i64 0, .int .i64 0]) 4 32 Try.underlying61 part_info rfl (by decide) _ L (partsL ps) rfl (owns_below H1.out (balloc (bdrew1 (brefl wa)) _) (Nat.le_refl _)) ⟨wa.heap.size, 0, none⟩ 1 1 (PartL.enc ⟨f, l, M, st⟩) rfl rfl (has_alloc _ _ _) (fun u hu => by simp [PartL.enc] at hu; rcases hu with rfl | rfl | rfl | rfl <;> rfl) (by unfold maxLen; omega) (by omega) (by simp; omega) ?_); intro a3 c3 w3 hown3 t31 t32 t33 hb3 hg3; have hk3 := KeptE.grown (owns_below H1.out (balloc (bdrew1 (brefl wa)) _) (Nat.le_refl _)) hg3; have hkw : KeptE 66 wa w3 := ((KeptE.below (bdrew1 (brefl wa))).trans (KeptE.below (balloc (brefl _) _))).trans hk3; have hw3 := (hkw.2 g _ _ _ h0 (by decide)).trans h0; have s1 := cell_of_heap hw3 1; have sf := fun o => froz_of_heap hw3 o; have HO3 := Lib.hid hown3; have HB3 := Lib.hid hb3; have HK3 := Lib.hid hkw; have hz3 := hg3.size; clear hown3 t31 t32 t33 hb3 hg3; dsimp only [Act.put]; simp only [List.setIfInBounds_toArray, List.set_cons_succ, List.set_cons_zero])) | (go_wp2_with (fail))); refine HK_.out _ _ (kepE_of (by repeat (first | exact KeptE.refl _ _ | assumption | refine KeptE.trans ?_ (KeptE.below (bdrew1 (brefl _))) | refine KeptE.trans ?_ (KeptE.below (balloc (brefl _) _)) | refine KeptE.trans ?_ (KeptE.below (by assumption)) | refine KeptE.trans ?_ (by assumption)))) ?_; clear HK_)
    (refine z_quiet (by simp only [List.getElem?_toArray, List.getElem?_cons_succ, List.getElem?_cons_zero]; rfl) (by rfl) (by rfl) (fun K_ hK_ => ?_); go_big_quiet_op; refine hK_ _ ?_; clear hK_ K_)
    (refine z_quiet (by simp only [List.getElem?_toArray, List.getElem?_cons_succ, List.getElem?_cons_zero]; rfl) (by rfl) (by rfl) (fun K_ hK_ => ?_); go_big_quiet_op; refine hK_ _ ?_; clear hK_ K_)
    (refine z_last (by simp only [List.getElem?_toArray, List.getElem?_cons_succ, List.getElem?_cons_zero]; rfl) (by rfl) (by rfl) (by rfl) (fun K_ hK_ => ?_); have HK_ := Lib.hid hK_; clear hK_; (first | (((refine wpAppO _ _ 61 rfl B 66 (.agg #[.int .i64 0, .int .i64 0, .int .i64 0, .int .i64 0]) 4 32 Try.underlying61 part_info rfl (by decide) _ L (partsL ps) rfl (owns_below H1.out (balloc (bdrew1 (brefl wa)) _) (Nat.le_refl _)) ⟨wa.heap.size, 0, none⟩ 1 1 (PartL.enc ⟨f, l, M, st⟩) rfl rfl (has_alloc _ _ _) (fun u hu => by simp [PartL.enc] at hu; rcases hu with rfl | rfl | rfl | rfl <;> rfl) (by unfold maxLen; omega) (by omega) (by simp; omega) ?_); intro a3 c3 w3 hown3 t31 t32 t33 hb3 hg3; have hk3 := KeptE.grown (owns_below H1.out (balloc (bdrew1 (brefl wa)) _) (Nat.le_refl _)) hg3; have hkw : KeptE 66 wa w3 := ((KeptE.below (bdrew1 (brefl wa))).trans (KeptE.below (balloc (brefl _) _))).trans hk3; have hw3 := (hkw.2 g _ _ _ h0 (by decide)).trans h0; have s1 := cell_of_heap hw3 1; have sf := fun o => froz_of_heap hw3 o; have HO3 := Lib.hid hown3; have HB3 := Lib.hid hb3; have HK3 := Lib.hid hkw; have hz3 := hg3.size; clear hown3 t31 t32 t33 hb3 hg3; dsimp only [Act.put]; simp only [List.setIfInBounds_toArray, List.set_cons_succ, List.set_cons_zero])) | (go_wp2_with (fail))); refine HK_.out _ _ ?_; clear HK_)
    refine z_nil ?_
    clear hK0_
    go_wp2_with fail
    obtain rfl := HLL.out
    obtain rfl := HNN.out
    refine bodyPost_end (v := .tuple #[]) (by simp [results, Try.results37, go_sem]; try rfl) rfl ⟨rfl, add_tail h0 HO3.out H2.out HK3.out hB (((Below.refl B wa).drew.alloc (by simp; omega) _).trans HB3.out)⟩
  · obtain ⟨p, hp⟩ : ∃ p, ps[ps.length - 1]? = some p := ⟨_, List.getElem?_eq_getElem (by omega)⟩
    have hlf := hlast p hp
    have hil := (List.getElem?_eq_some_iff.1 hp).1
    obtain ⟨gp, hap⟩ : ∃ gp, ap = some ⟨gp, 0, none⟩ := by
      rcases h1.2 with ⟨hv, hn0⟩ | ⟨gp, cap, cur, hv, _⟩
      · omega
      · injection hv with ea _ _
        exact ⟨gp, ea⟩
    subst hap
    obtain ⟨_, x1, _, _⟩ := partsL_get ps (ps.length - 1) p hp
    have hc := (h1.cellAt ((ps.length - 1) * 4 + 1) (by omega)).trans x1
    have hd2 : decide (((p.last : Nat) : Int) < (f : Int)) = true := by simp; omega
    have hd3 : decide (p.last < f) = true := by simp; omega
    have hLz : ((ps.length : Int) == 0) = false := by rw [beq_eq_false_iff_ne]; omega
    have hLm : (ps.length : Int) - 1 = ((ps.length - 1 : Nat) : Int) := by omega
    generalize p.last = z at *
    clear h h1 h2 hlast hL0 x1 hp
    generalize hq : ps.length - 1 = q at *
    generalize hLL : ps.length = L at *
    generalize hNN : ns.length = M at *
    have HLL := Lib.hid hLL
    have HNN := Lib.hid hNN
    clear hLL hNN
    go_enter Try.func37, Try.ntmps37
    go_wp2_with (first | (go_at_call 18; refine (need_true _).mono ?_; rintro e wa ⟨rfl, rfl⟩))
    refine wp_region_last (.step 0 (.step 1 (.step 2 (.step 3 (.step 4 (.step 5 (.step 6 (.step 7 (.step 8 (.step 9 (.step 10 (.step 11 (.step 12 (.step 13 (.step 14 (.step 15 (.step 16 (.step 17 (.step 18 .nil))))))))))))))))))) 18 (by kernel_rfl) (by kernel_rfl) (by kernel_rfl) (by kernel_rfl) (by kernel_rfl) (by intro _ _ d_ _ _ h_; cases d_ <;> first | exact h_ | (dsimp +zetaDelta only at h_ ⊢; exact h_)) (fun w' => ∃ p : KepE 66 wa, w' = p.val) (kepE_start _ _) ?_
    have hK0_ := fun (p : KepE 66 wa) (o : Nat) => p.is.cell h0 (by decide) o
    (refine z_quiet (by simp only [List.getElem?_toArray, List.getElem?_cons_succ, List.getElem?_cons_zero]; rfl) (by rfl) (by rfl) (fun K_ hK_ => ?_); go_big_quiet_op; refine hK_ _ ?_; clear hK_ K_)
    (refine z_quiet (by simp only [List.getElem?_toArray, List.getElem?_cons_succ, List.getElem?_cons_zero]; rfl) (by rfl) (by rfl) (fun K_ hK_ => ?_); go_big_quiet_op; refine hK_ _ ?_; clear hK_ K_)
    (refine z_quiet (by simp only [List.getElem?_toArray, List.getElem?_cons_succ, List.getElem?_cons_zero]; rfl) (by rfl) (by rfl) (fun K_ hK_ => ?_); go_big_quiet_op; refine hK_ _ ?_; clear hK_ K_)
    (refine z_quiet (by simp only [List.getElem?_toArray, List.getElem?_cons_succ, List.getElem?_cons_zero]; rfl) (by rfl) (by rfl) (fun K_ hK_ => ?_); go_big_quiet_op; refine hK_ _ ?_; clear hK_ K_)
    (refine z_quiet (by simp only [List.getElem?_toArray, List.getElem?_cons_succ, List.getElem?_cons_zero]; rfl) (by rfl) (by rfl) (fun K_ hK_ => ?_); go_big_quiet_op; refine hK_ _ ?_; clear hK_ K_)
    (refine z_quiet (by simp only [List.getElem?_toArray, List.getElem?_cons_succ, List.getElem?_cons_zero]; rfl) (by rfl) (by rfl) (fun K_ hK_ => ?_); go_big_quiet_op; refine hK_ _ ?_; clear hK_ K_)
    (refine z_quiet (by simp only [List.getElem?_toArray, List.getElem?_cons_succ, List.getElem?_cons_zero]; rfl) (by rfl) (by rfl) (fun K_ hK_ => ?_); go_big_quiet_op; refine hK_ _ ?_; clear hK_ K_)
    (refine z_quiet (by simp only [List.getElem?_toArray, List.getElem?_cons_succ, List.getElem?_cons_zero]; rfl) (by rfl) (by rfl) (fun K_ hK_ => ?_); go_big_quiet_op; refine hK_ _ ?_; clear hK_ K_)
    (refine z_quiet (by simp only [List.getElem?_toArray, List.getElem?_cons_succ, List.getElem?_cons_zero]; rfl) (by rfl) (by rfl) (fun K_ hK_ => ?_); go_big_quiet_op; refine hK_ _ ?_; clear hK_ K_)
    (refine z_quiet (by simp only [List.getElem?_toArray, List.getElem?_cons_succ, List.getElem?_cons_zero]; rfl) (by rfl) (by rfl) (fun K_ hK_ => ?_); go_big_quiet_op; refine hK_ _ ?_; clear hK_ K_)
    (refine z_quiet (by simp only [List.getElem?_toArray, List.getElem?_cons_succ, List.getElem?_cons_zero]; rfl) (by rfl) (by rfl) (fun K_ hK_ => ?_); go_big_quiet_op; refine hK_ _ ?_; clear hK_ K_)
    (refine z_quiet (by simp only [List.getElem?_toArray, List.getElem?_cons_succ, List.getElem?_cons_zero]; rfl) (by rfl) (by rfl) (fun K_ hK_ => ?_); go_big_quiet_op; refine hK_ _ ?_; clear hK_ K_)
    (refine z_quiet (by simp only [List.getElem?_toArray, List.getElem?_cons_succ, List.getElem?_cons_zero]; rfl) (by rfl) (by rfl) (fun K_ hK_ => ?_); go_big_quiet_op; refine hK_ _ ?_; clear hK_ K_)
    (refine z_quiet (by simp only [List.getElem?_toArray, List.getElem?_cons_succ, List.getElem?_cons_zero]; rfl) (by rfl) (by rfl) (fun K_ hK_ => ?_); go_big_quiet_op; refine hK_ _ ?_; clear hK_ K_)
    (refine z_run (by simp only [List.getElem?_toArray, List.getElem?_cons_succ, List.getElem?_cons_zero]; rfl) (by rfl) (by rfl) (fun K_ hK_ => ?_); have HK_ := Lib.hid hK_; clear hK_; (first | (((refine wpAppO _ _ 61 rfl B 66 (.agg #[.int .i64 0, .int .i64 0, .int .i64 0, .int .i64 0]) 4 32 Try.underlying61 part_info rfl (by decide) _ L (partsL ps) rfl (owns_below H1.out (balloc (bdrew1 (brefl wa)) _) (Nat.le_refl _)) ⟨wa.heap.size, 0, none⟩ 1 1 (PartL.enc ⟨f, l, M, st⟩) rfl rfl (has_alloc _ _ _) (fun u hu => by simp [PartL.enc] at hu; rcases hu with rfl | rfl | rfl | rfl <;> rfl) (by unfold maxLen; omega) (by omega) (by simp; omega) ?_); intro a3 c3 w3 hown3 t31 t32 t33 hb3 hg3; have hk3 := KeptE.grown (owns_below H1.out (balloc (bdrew1 (brefl wa)) _) (Nat.le_refl _)) hg3; have hkw : KeptE 66 wa w3 := ((KeptE.below (bdrew1 (brefl wa))).trans (KeptE.below (balloc (brefl _) _))).trans hk3; have hw3 := (hkw.2 g _ _ _ h0 (by decide)).trans h0; have s1 := cell_of_heap hw3 1; have sf := fun o => froz_of_heap hw3 o; have HO3 := Lib.hid hown3; have HB3 := Lib.hid hb3; have HK3 := Lib.hid hkw; have hz3 := hg3.size; clear hown3 t31 t32 t33 hb3 hg3; dsimp only [Act.put]; simp only [List.setIfInBounds_toArray, List.set_cons_succ, List.set_cons_zero])) | (go_wp2_with (fail))); refine HK_.out _ _ (kepE_of (by repeat (first | exact KeptE.refl _ _ | assumption | refine KeptE.trans ?_ (KeptE.below (bdrew1 (brefl _))) | refine KeptE.trans ?_ (KeptE.below (balloc (brefl _) _)) | refine KeptE.trans ?_ (KeptE.below (by assumption)) | refine KeptE.trans ?_ (by assumption)))) ?_; clear HK_)
    (refine z_run (by simp only [List.getElem?_toArray, List.getElem?_cons_succ, List.getElem?_cons_zero]; rfl) (by rfl) (by rfl) (fun K_ hK_ => ?_); have HK_ := Lib.hid hK_; clear hK_; (first | (((refine wpAppO _ _ 61 rfl B 66 (.agg #[.int .i64 0, .int .i64 0, .int .i64 0, .int .i64 0]) 4 32 Try.underlying61 part_info rfl (by decide) _ L (partsL ps) rfl (owns_below H1.out (balloc (bdrew1 (brefl wa)) _) (Nat.le_refl _)) ⟨wa.heap.size, 0, none⟩ 1 1 (PartL.enc ⟨f, l, M, st⟩) rfl rfl (has_alloc _ _ _) (fun u hu => by simp [PartL.enc] at hu; rcases hu with rfl | rfl | rfl | rfl <;> rfl) (by unfold maxLen; omega) (by omega) (by simp; omega) ?_); intro a3 c3 w3 hown3 t31 t32 t33 hb3 hg3; have hk3 := KeptE.grown (owns_below H1.out (balloc (bdrew1 (brefl wa)) _) (Nat.le_refl _)) hg3; have hkw : KeptE 66 wa w3 := ((KeptE.below (bdrew1 (brefl wa))).trans (KeptE.below (balloc (brefl _) _))).trans hk3; have hw3 := (hkw.2 g _ _ _ h0 (by decide)).trans h0; have s1 := cell_of_heap hw3 1; have sf := fun o => froz_of_heap hw3 o; have HO3 := Lib.hid hown3; have HB3 := Lib.hid hb3; have HK3 := Lib.hid hkw; have hz3 := hg3.size; clear hown3 t31 t32 t33 hb3 hg3; dsimp only [Act.put]; simp only [List.setIfInBounds_toArray, List.set_cons_succ, List.set_cons_zero])) | (go_wp2_with (fail))); refine HK_.out _ _ (kepE_of (by repeat (first | exact KeptE.refl _ _ | assumption | refine KeptE.trans ?_ (KeptE.below (bdrew1 (brefl _))) | refine KeptE.trans ?_ (KeptE.below (balloc (brefl _) _)) | refine KeptE.trans ?_ (KeptE.below (by assumption)) | refine KeptE.trans ?_ (by assumption)))) ?_; clear HK_)
    (refine z_quiet (by simp only [List.getElem?_toArray, List.getElem?_cons_succ, List.getElem?_cons_zero]; rfl) (by rfl) (by rfl) (fun K_ hK_ => ?_); go_big_quiet_op; refine hK_ _ ?_; clear hK_ K_)
    (refine z_quiet (by simp only [List.getElem?_toArray, List.getElem?_cons_succ, List.getElem?_cons_zero]; rfl) (by rfl) (by rfl) (fun K_ hK_ => ?_); go_big_quiet_op; refine hK_ _ ?_; clear hK_ K_)
    (refine z_last (by simp only [List.getElem?_toArray, List.getElem?_cons_succ, List.getElem?_cons_zero]; rfl) (by rfl) (by rfl) (by rfl) (fun K_ hK_ => ?_); have HK_ := Lib.hid hK_; clear hK_; (first | (((refine wpAppO _ _ 61 rfl B 66 (.agg #[.int .i64 0, .int .i64 0, .int .i64 0, .int .i64 0]) 4 32 Try.underlying61 part_info rfl (by decide) _ L (partsL ps) rfl (owns_below H1.out (balloc (bdrew1 (brefl wa)) _) (Nat.le_refl _)) ⟨wa.heap.size, 0, none⟩ 1 1 (PartL.enc ⟨f, l, M, st⟩) rfl rfl (has_alloc _ _ _) (fun u hu => by simp [PartL.enc] at hu; rcases hu with rfl | rfl | rfl | rfl <;> rfl) (by unfold maxLen; omega) (by omega) (by simp; omega) ?_); intro a3 c3 w3 hown3 t31 t32 t33 hb3 hg3; have hk3 := KeptE.grown (owns_below H1.out (balloc (bdrew1 (brefl wa)) _) (Nat.le_refl _)) hg3; have hkw : KeptE 66 wa w3 := ((KeptE.below (bdrew1 (brefl wa))).trans (KeptE.below (balloc (brefl _) _))).trans hk3; have hw3 := (hkw.2 g _ _ _ h0 (by decide)).trans h0; have s1 := cell_of_heap hw3 1; have sf := fun o => froz_of_heap hw3 o; have HO3 := Lib.hid hown3; have HB3 := Lib.hid hb3; have HK3 := Lib.hid hkw; have hz3 := hg3.size; clear hown3 t31 t32 t33 hb3 hg3; dsimp only [Act.put]; simp only [List.setIfInBounds_toArray, List.set_cons_succ, List.set_cons_zero])) | (go_wp2_with (fail))); refine HK_.out _ _ ?_; clear HK_)
    refine z_nil ?_
    clear hK0_
    go_wp2_with fail
    obtain rfl := HLL.out
    obtain rfl := HNN.out
    refine bodyPost_end (v := .tuple #[]) (by simp [results, Try.results37, go_sem]; try rfl) rfl ⟨rfl, add_tail h0 HO3.out H2.out HK3.out hB (((Below.refl B wa).drew.alloc (by simp; omega) _).trans HB3.out)⟩
end Go.Proofs.Ythjnpfhcjacibaa
