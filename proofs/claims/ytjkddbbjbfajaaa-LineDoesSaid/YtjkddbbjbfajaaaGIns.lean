
/- slices.Insert at glyphs, onto a row of the call's own; (*line.Line).Insert. Conditions: rows of their own, apart; a place that is there; sizes. -/
import Derived.Test.YtjkddbbjbfajaaaGNew
import Derived.Laws.Externs
namespace Go.Proofs.Ytjkddbbjbfajaaa
open Go.RowKit Go.Lib

/-- What a change of a slice may touch: its own block. -/
structure RStep (B : Nat) (a a' : Option Addr) (w w' : World) : Prop where
  below : Below B w w'
  keep : ∀ k, k < w.heap.size → some k ≠ a.map (·.block) → w'.heap[k]? = w.heap[k]?
  new : ∀ k, a'.map (·.block) = some k → a.map (·.block) = some k ∨ w.heap.size ≤ k
theorem RStep.refl (B : Nat) (a : Option Addr) (w : World) : RStep B a a w w := ⟨Below.refl _ _, fun _ _ _ => rfl, fun _ h => .inl h⟩
theorem RStep.of_new {B : Nat} {a a' : Option Addr} {w w' : World} (h : Below w.heap.size w w') (hB : B ≤ w.heap.size) (hn : ∀ p, a' = some p → w.heap.size ≤ p.block) : RStep B a a' w w' :=
  ⟨h.mono hB, fun k hk _ => h.block k hk, fun k hk => .inr (by
    cases a' with
    | none => cases hk
    | some p => cases hk; exact hn p rfl)⟩

/-- 'copy' into a row that is known whole, between elements of k cells. -/
theorem run_copyRowK {P : Program} (w : World) (dT sT ty elem : TypeId) (k g o dLen dCap : Nat) (a : Addr) (sLen sCap : Nat) (cur : Array Value) (t : TypeId) (cs : List Value)
    (hu : P.underlying dT = some (.slice elem)) (hs : (P.info? elem).map (·.size) = some k)
    (hg : w.heap[g]? = some (.cells cur t (0, 0))) (hn : cs.length = Nat.min sLen dLen * k)
    (hsrc : ∀ j v, cs[j]? = some v → w.cell? (a.add j) = some v) (hfit : o + cs.length ≤ cur.size) (h1 : ∀ v ∈ cs, v.oneCell' = true) :
    (Builtin.copy_ #[dT, sT] ty #[.slice (some ⟨g, o, none⟩) dLen dCap, .slice (some a) sLen sCap]).run P w =
      .ok (goInt (Nat.min sLen dLen)) (w.setRow g (splice cur.toList o cs).toArray) := by
  have hl := run_loadCells_list (P := P) w a cs hsrc
  have hst := run_storeCells_at P g o t cs 0 cur w hg (by simpa using hfit) h1
  cases hq : P.info? elem with
  | none => simp [hq] at hs
  | some i =>
    have hi : i.size = k := by simpa [hq] using hs
    simp [Builtin.copy_, run_underlying hu, Builtin.lenOf, Builtin.firstCells, sizeOf, typeInfo, hq, hi, ← hn, hl, hst, splice]
theorem wpCopyO {P : Program} {w : World} {o : Oper} {a : Act} {K : Act → World → Prop} {Q : Exit → Act → World → Prop} (d s : Operand) (dT sT : TypeId)
    (ho : o.op = .call { callee := .builtin .copy, args := #[d, s], argTypes := #[dT, sT] }) (elem : TypeId) (k : Nat) (hu : P.underlying dT = some (.slice elem)) (hsz : (P.info? elem).map (·.size) = some k)
    (g off dLen dCap : Nat) (ad : Addr) (sLen sCap : Nat) (hd : a.eval d = .slice (some ⟨g, off, none⟩) dLen dCap) (hs : a.eval s = .slice (some ad) sLen sCap)
    (cur : Array Value) (t : TypeId) (hg : w.heap[g]? = some (.cells cur t (0, 0))) (cs : List Value) (hn : cs.length = Nat.min sLen dLen * k)
    (hsrc : ∀ j v, cs[j]? = some v → w.cell? (ad.add j) = some v) (hfit : off + cs.length ≤ cur.size) (h1 : ∀ v ∈ cs, v.oneCell' = true)
    (h : ∀ w', w'.heap[g]? = some (.cells (splice cur.toList off cs).toArray t (0, 0)) → (∀ k, k ≠ g → w'.heap[k]? = w.heap[k]?) → w'.heap.size = w.heap.size → Below g w w' → K (a.put o.dst (goInt (Nat.min sLen dLen))) w') : o.wp P a w K Q := by
  have hrun := run_copyRowK (P := P) w dT sT o.type elem k g off dLen dCap ad sLen sCap cur t cs hu hsz hg hn hsrc hfit h1
  unfold Oper.wp
  simp [execOp, ho, resolve, invoke, builtin, hd, hs, hrun, Result.andThen]
  exact h _ (setRow_heap w g cur _ t _ hg) (fun k hk => setRow_other w g k _ hk) (by simp [World.setRow]) (below_setRow (Below.refl _ _) (Nat.le_refl _) _)
theorem wpCopyL {P : Program} {w : World} {ops : Array Oper} {rest : List Oper} {o : Oper} {a : Act} {Q : Exit → Act → World → Prop} (hgd : o.guard = none) (d s : Operand) (dT sT : TypeId)
    (ho : o.op = .call { callee := .builtin .copy, args := #[d, s], argTypes := #[dT, sT] }) (elem : TypeId) (k : Nat) (hu : P.underlying dT = some (.slice elem)) (hsz : (P.info? elem).map (·.size) = some k)
    (g off dLen dCap : Nat) (ad : Addr) (sLen sCap : Nat) (hd : a.eval d = .slice (some ⟨g, off, none⟩) dLen dCap) (hs : a.eval s = .slice (some ad) sLen sCap)
    (cur : Array Value) (t : TypeId) (hg : w.heap[g]? = some (.cells cur t (0, 0))) (cs : List Value) (hn : cs.length = Nat.min sLen dLen * k)
    (hsrc : ∀ j v, cs[j]? = some v → w.cell? (ad.add j) = some v) (hfit : off + cs.length ≤ cur.size) (h1 : ∀ v ∈ cs, v.oneCell' = true)
    (h : ∀ w', w'.heap[g]? = some (.cells (splice cur.toList off cs).toArray t (0, 0)) → (∀ k, k ≠ g → w'.heap[k]? = w.heap[k]?) → w'.heap.size = w.heap.size → Below g w w' → wpList P ops Q rest (a.put o.dst (goInt (Nat.min sLen dLen))) w') : wpList P ops Q (o :: rest) a w :=
  wpList_plain hgd fun _ hK => wpCopyO d s dT sT ho elem k hu hsz g off dLen dCap ad sLen sCap hd hs cur t hg cs hn hsrc hfit h1 fun w' g1 g2 g3 g4 => hK _ _ (h w' g1 g2 g3 g4)

theorem ins_shift {α : Type} (A D S Y : List α) (h : Y.length ≤ S.length) : splice (splice (A ++ (D ++ S)) (A.length + Y.length) D) A.length Y = A ++ (Y ++ (D ++ S.drop Y.length)) := by
  have e0 : (A ++ (D ++ S)).drop (A.length + Y.length + D.length) = S.drop Y.length := by
    rw [show A.length + Y.length + D.length = A.length + (D.length + Y.length) by omega, List.drop_append, List.drop_append, @List.drop_eq_nil_of_le _ (A) _ (by omega), @List.drop_eq_nil_of_le _ (D) _ (by omega)]
    simp
  have e1 : (A ++ (D ++ S)).take (A.length + Y.length) = A ++ (D ++ S).take Y.length := by
    rw [List.take_append, List.take_of_length_le (by omega)]
    simp
  have e2 : splice (A ++ (D ++ S)) (A.length + Y.length) D = A ++ ((D ++ S).take Y.length ++ (D ++ S.drop Y.length)) := by
    rw [splice, e0, e1, List.append_assoc]
  have e3 : ((D ++ S).take Y.length).length = Y.length := by rw [List.length_take, List.length_append]; omega
  rw [e2, splice, List.take_left, List.drop_append, List.drop_append, @List.drop_eq_nil_of_le _ (A) _ (by omega), @List.drop_eq_nil_of_le _ ((D ++ S).take Y.length) _ (by omega), e3]
  simp
theorem ins_grow {α : Type} (A Z Y D : List α) : splice (splice (A ++ Z) A.length Y) (A.length + Y.length) D = A ++ (Y ++ (D ++ Z.drop (Y.length + D.length))) := by
  have e1 : splice (A ++ Z) A.length Y = (A ++ Y) ++ Z.drop Y.length := by
    rw [splice, List.take_left, List.drop_append, @List.drop_eq_nil_of_le _ (A) _ (by omega)]
    simp
  rw [e1, splice, ← List.length_append, List.take_left, List.drop_append, @List.drop_eq_nil_of_le _ (A ++ Y) _ (by omega)]
  simp [Nat.add_sub_cancel_left]
theorem size_splice {α : Type} (L : List α) (o : Nat) (cs : List α) (h : o + cs.length ≤ L.length) : (splice L o cs).length = L.length := length_splice L o cs h
theorem shape_of {w : World} {g : Nat} {cs : Array Value} {t : TypeId} {fz : Nat × Nat} (h : w.heap[g]? = some (.cells cs t fz)) : w.shape? g = some (t, cs.size) := by simp [World.shape?, h]

def SInsIs (B : Nat) (a : Option Addr) (n m : Nat) (r : List (Int × Int)) (w : World) (e : Ending) (w' : World) : Prop :=
  ∃ a' c', e = .returned (.slice a' (n + m) c') ∧ w'.ownsRow B 38 2 (.slice a' (n + m) c') (n + m) (gv r) ∧ RStep B a a' w w'
theorem info_glyph2 : (Try.prog.info? 38).map (·.size) = some 2 := by kernel_rfl

set_option maxHeartbeats 4000000 in
set_option maxRecDepth 100000 in
/-- There is room, ahead of the last: in place. -/
theorem sins_shift (B b n c i vb m cv : Nat) (cur cv' : Array Value) (l vs : List (Int × Int)) (w : World) (hh : w.heap[b]? = some (.cells cur 38 (0, 0))) (hvh : w.heap[vb]? = some (.cells cv' 38 (0, 0))) (hne : vb ≠ b) (hl : l.length = n) (hvl : vs.length = m)
    (hcs : cur.size = c * 2) (hct : cur.toList.take (n * 2) = gv l) (hv : Has w (some ⟨vb, 0, none⟩) (gv vs)) (hi : i < n) (hm : 0 < m) (hroom : n + m ≤ c) (hc : c ≤ maxLen) (hn : n ≤ 1000000) (hm6 : m ≤ 1000000) (hB : B ≤ b) :
    Calls Try.prog 35 #[.slice (some ⟨b, 0, none⟩) n c, .int .i64 (i : Nat), .slice (some ⟨vb, 0, none⟩) m cv] w (SInsIs B (some ⟨b, 0, none⟩) n m (l.take i ++ (vs ++ l.drop i)) w) := by
  have hov : ∀ lb cb, (callFunc 38 #[.slice (some ⟨vb, 0, none⟩) m cv, .slice (some ⟨b, (i + m) * 2, none⟩) lb cb]).run Try.prog w = .ok (.value (.bool false)) w := fun lb cb => by
    rw [run_callFunc_extern Try.func38 (by kernel_rfl) (by kernel_rfl) (by kernel_rfl) (e := Extern.SlicesOverlaps.overlaps #[28, 28] #[4]) (by kernel_rfl),
      Lib.run_overlaps_apart w 28 4 38 Try.underlying28 2 (by intro W; kernel_rfl) ⟨vb, 0, none⟩ ⟨b, (i + m) * 2, none⟩ m cv lb cb hne 38 38 cv'.size cur.size (shape_of hvh) (shape_of hh) (by omega) (froz_of_heap hvh 0) (froz_of_heap hvh _)]
    rfl
  have hA : (gv (l.take i)).length = i * 2 := by rw [gv_length, List.length_take, hl]; omega
  have hD : (gv (l.drop i)).length = (n - i) * 2 := by rw [gv_length, List.length_drop, hl]
  have hY : (gv vs).length = m * 2 := by rw [gv_length, hvl]
  have hcur : cur.toList = gv (l.take i) ++ (gv (l.drop i) ++ cur.toList.drop (n * 2)) := by
    rw [← List.append_assoc, ← gv_append, List.take_append_drop, ← hct, List.take_append_drop]
  have hlen : (splice cur.toList ((i + m) * 2) (gv (l.drop i))).length = c * 2 := by
    rw [size_splice _ _ _ (by rw [hD, Array.length_toList, hcs]; omega), Array.length_toList, hcs]
  have hfin : splice (splice cur.toList ((i + m) * 2) (gv (l.drop i))) (i * 2) (gv vs) = gv (l.take i ++ (vs ++ l.drop i)) ++ (cur.toList.drop (n * 2)).drop (m * 2) := by
    have := ins_shift (gv (l.take i)) (gv (l.drop i)) (cur.toList.drop (n * 2)) (gv vs) (by rw [hY, List.length_drop, Array.length_toList, hcs]; omega)
    rw [hA, hY, ← hcur, show i * 2 + m * 2 = (i + m) * 2 by omega] at this
    rw [this, gv_append, gv_append]
    simp
  have hlen2 : (splice (splice cur.toList ((i + m) * 2) (gv (l.drop i))) (i * 2) (gv vs)).length = c * 2 := by
    rw [size_splice _ _ _ (by rw [hY, hlen]; omega), hlen]
  have hsz : (gv (l.take i ++ (vs ++ l.drop i))).length = (n + m) * 2 := by
    rw [gv_length]; simp [hl, hvl]; omega
  obtain ⟨L1, hL1⟩ : ∃ L1, L1 = splice cur.toList ((i + m) * 2) (gv (l.drop i)) := ⟨_, rfl⟩
  have hsrcD : Has w (some ⟨b, i * 2, none⟩) (gv (l.drop i)) := by
    have hall : ∀ j u, cur.toList[j]? = some u → w.cell? ⟨b, j, none⟩ = some u := fun j u hu => by rw [cell_of_heap hh]; simpa using hu
    refine has_of fun j u hu => hall _ _ ?_
    rw [hcur, List.getElem?_append_right (by omega), hA, List.getElem?_append_left (by have := (List.getElem?_eq_some_iff.1 hu).1; omega), show i * 2 + j - i * 2 = j by omega]
    exact hu
  rw [← hL1] at hlen hfin hlen2
  obtain ⟨L2, hL2⟩ : ∃ L2, L2 = splice L1 (i * 2) (gv vs) := ⟨_, rfl⟩
  rw [← hL2] at hfin hlen2
  have HV := Lib.hid hv
  have HF := Lib.hid hfin
  have HS := Lib.hid hsz
  have HL1 := Lib.hid hL1
  have HL2 := Lib.hid hL2
  have HSD := Lib.hid hsrcD
  have HH := Lib.hid hh
  have HD := Lib.hid hD
  have HY := Lib.hid hY
  have HLL := Lib.hid hlen
  have HLL2 := Lib.hid hlen2
  have HCS := Lib.hid hcs
  have hbw := (Array.getElem?_eq_some_iff.1 hh).1
  have hk1 : ¬ c = i := by omega
  have hk2 : ¬ c = i + m := by omega
  have hm0 : ¬ (m : Int) = 0 := by omega
  have hin : ¬ (i : Int) = (n : Int) := by omega
  unfold maxLen at hc
  unfold SInsIs
  obtain ⟨R, hR⟩ : ∃ R, R = gv (l.take i ++ (vs ++ l.drop i)) := ⟨_, rfl⟩
  rw [← hR] at HF HS ⊢
  clear hfin hsz hL1 hL2 hsrcD hh hD hY hlen hlen2 hcs hv hct hcur hA hvh hl hvl hR
  go_enter Try.func35, Try.ntmps35
  go_wp2_with (simp only [hov])
  refine wp_region_last (.step 0 (.step 1 (.step 2 (.step 3 (.step 4 (.step 5 (.step 6 (.step 7 (.step 8 .nil))))))))) 8 (by kernel_rfl) (by kernel_rfl) (by kernel_rfl) (by kernel_rfl) (by kernel_rfl) (by intro _ _ d_ _ _ h_; cases d_ <;> first | exact h_ | (dsimp +zetaDelta only at h_ ⊢; exact h_)) (fun w' => ∃ p : Wld w [], w' = p.val) (wld_start _ _) ?_
  have hG_ := @wldC w
  (refine z_quiet (by simp only [List.getElem?_toArray, List.getElem?_cons_succ, List.getElem?_cons_zero]; rfl) (by rfl) (by rfl) (fun K_ hK_ => ?_); go_big_quiet_op; refine hK_ _ ?_; clear hK_ K_)
  (refine z_quiet (by simp only [List.getElem?_toArray, List.getElem?_cons_succ, List.getElem?_cons_zero]; rfl) (by rfl) (by rfl) (fun K_ hK_ => ?_); go_big_quiet_op; refine hK_ _ ?_; clear hK_ K_)
  (refine z_quiet (by simp only [List.getElem?_toArray, List.getElem?_cons_succ, List.getElem?_cons_zero]; rfl) (by rfl) (by rfl) (fun K_ hK_ => ?_); go_big_quiet_op; refine hK_ _ ?_; clear hK_ K_)
  (refine z_quiet (by simp only [List.getElem?_toArray, List.getElem?_cons_succ, List.getElem?_cons_zero]; rfl) (by rfl) (by rfl) (fun K_ hK_ => ?_); go_big_quiet_op; refine hK_ _ ?_; clear hK_ K_)
  (refine z_quiet (by simp only [List.getElem?_toArray, List.getElem?_cons_succ, List.getElem?_cons_zero]; rfl) (by rfl) (by rfl) (fun K_ hK_ => ?_); go_big_quiet_op; refine hK_ _ ?_; clear hK_ K_)
  (refine z_quiet (by simp only [List.getElem?_toArray, List.getElem?_cons_succ, List.getElem?_cons_zero]; rfl) (by rfl) (by rfl) (fun K_ hK_ => ?_); go_big_quiet_op; refine hK_ _ ?_; clear hK_ K_)
  (refine z_quiet (by simp only [List.getElem?_toArray, List.getElem?_cons_succ, List.getElem?_cons_zero]; rfl) (by rfl) (by rfl) (fun K_ hK_ => ?_); go_big_quiet_op; refine hK_ _ ?_; clear hK_ K_)
  (refine z_quiet (by simp only [List.getElem?_toArray, List.getElem?_cons_succ, List.getElem?_cons_zero]; rfl) (by rfl) (by rfl) (fun K_ hK_ => ?_); go_big_quiet_op; refine hK_ _ ?_; clear hK_ K_)
  (refine z_last (by simp only [List.getElem?_toArray, List.getElem?_cons_succ, List.getElem?_cons_zero]; rfl) (by rfl) (by rfl) (by rfl) (fun K_ hK_ => ?_); have HK_ := Lib.hid hK_; clear hK_; (first | ((refine wpCopyO _ _ 28 28 rfl 38 2 Try.underlying28 info_glyph2 b ((i + m) * 2) _ _ ⟨b, i * 2, none⟩ _ _ rfl rfl cur 38 HH.out (gv (l.drop i)) (by rw [HD.out]; simp only [Nat.min_def]; split <;> omega) (fun j v hj => by obtain ⟨p, hp, hc⟩ := HSD.out j v hj; cases hp; exact hc) (by rw [HD.out, HCS.out]; omega) (gv_one _) ?_; intro W1 hW1 ho1 hz1 hb1; rw [← HL1.out] at hW1; have HW1 := Lib.hid hW1; have HO1 := Lib.hid (show ∀ k, k ≠ b → W1.heap[k]? = w.heap[k]? from ho1); have hz1' : W1.heap.size = w.heap.size := hz1; have HB1 := Lib.hid (show Below b w W1 from (bdrew1q (Below.refl b w)).trans hb1); have HV1 := Lib.hid (show Has W1 (some ⟨vb, 0, none⟩) (gv vs) from fun j u hu => by obtain ⟨p, hp, hc⟩ := HV.out j u hu; cases hp; exact ⟨_, rfl, by rw [World.cell?_of_block (w := w) (HO1.out _ (by rw [add_block]; exact hne))]; exact hc⟩); clear hW1 ho1 hb1 hz1)) | (go_wp2_with (fail))); refine HK_.out _ _ ?_; clear HK_)
  refine z_nil ?_
  clear hG_
  go_wp2_with (refine wpCopyL rfl _ _ 28 28 rfl 38 2 Try.underlying28 info_glyph2 b (i * 2) _ _ ⟨vb, 0, none⟩ _ _ rfl rfl L1.toArray 38 HW1.out (gv vs) ?_ ?_ ?_ ?_ ?_; (rw [HY.out]; simp only [Nat.min_def]; split <;> omega); (intro j v hj; obtain ⟨p, hp, hc⟩ := HV1.out j v hj; cases hp; exact hc); (rw [HY.out, List.size_toArray, HLL.out]; omega); exact gv_one _; intro W2 hW2 ho2 hz2 hb2; rw [← HL2.out] at hW2; have HW2 := Lib.hid hW2; have HO2 := Lib.hid ho2; have HB2 := Lib.hid (HB1.out.trans hb2); clear hW2 ho2 hb2)
  go_ret
  refine ⟨some ⟨b, 0, none⟩, c, rfl, ⟨HS.out, .inr ⟨b, c, _, rfl, hB, HW2.out, hroom, by unfold maxLen; omega, by rw [List.size_toArray, HLL2.out], ?_⟩⟩, HB2.out.mono hB, fun k hk hne => ?_, fun _ h => .inl h⟩
  · rw [HF.out, ← HS.out, List.take_left]
  · have : k ≠ b := by rintro rfl; exact hne rfl
    rw [HO2.out k this, HO1.out k this]

set_option maxHeartbeats 4000000 in
set_option maxRecDepth 100000 in
/-- There is no room, ahead of the last: a new row. -/
theorem sins_grow (B b n c i vb m cv : Nat) (cur cv' : Array Value) (l vs : List (Int × Int)) (w : World) (hh : w.heap[b]? = some (.cells cur 38 (0, 0))) (hl : l.length = n) (hvl : vs.length = m)
    (hcs : cur.size = c * 2) (hct : cur.toList.take (n * 2) = gv l) (hv : Has w (some ⟨vb, 0, none⟩) (gv vs)) (hvb : vb < w.heap.size) (hi : i < n) (hm : 0 < m) (hnc : n ≤ c) (hroom : c < n + m) (hn : n ≤ 1000000) (hm6 : m ≤ 1000000) (hB : B ≤ w.heap.size) :
    Calls Try.prog 35 #[.slice (some ⟨b, 0, none⟩) n c, .int .i64 (i : Nat), .slice (some ⟨vb, 0, none⟩) m cv] w (SInsIs B (some ⟨b, 0, none⟩) n m (l.take i ++ (vs ++ l.drop i)) w) := by
  obtain ⟨i0, hi0, hz0, hzs, hzb⟩ := info_parts info_glyph
  have hA : (gv (l.take i)).length = i * 2 := by rw [gv_length, List.length_take, hl]; omega
  have hD : (gv (l.drop i)).length = (n - i) * 2 := by rw [gv_length, List.length_drop, hl]
  have hY : (gv vs).length = m * 2 := by rw [gv_length, hvl]
  have hall : ∀ j u, cur.toList[j]? = some u → w.cell? ⟨b, j, none⟩ = some u := fun j u hu => by rw [cell_of_heap hh]; simpa using hu
  have hcur : cur.toList = gv (l.take i) ++ (gv (l.drop i) ++ cur.toList.drop (n * 2)) := by
    rw [← List.append_assoc, ← gv_append, List.take_append_drop, ← hct, List.take_append_drop]
  have hbw := (Array.getElem?_eq_some_iff.1 hh).1
  have hsrcD : Has w (some ⟨b, i * 2, none⟩) (gv (l.drop i)) := by
    refine has_of fun j u hu => hall _ _ ?_
    rw [hcur, List.getElem?_append_right (by omega), hA, List.getElem?_append_left (by have := (List.getElem?_eq_some_iff.1 hu).1; omega), show i * 2 + j - i * 2 = j by omega]
    exact hu
  have hold : (Builtin.firstCells i0.size i (.slice (some ⟨b, 0, none⟩) i c)).run Try.prog w.drew = .ok (gv (l.take i)).toArray w.drew := by
    rw [hzs]
    exact run_firstCells_some w.drew 2 i ⟨b, 0, none⟩ i c (gv (l.take i)) hA (fun j v hj => by
      rw [Addr.add_lit, Nat.zero_add]
      refine hall _ _ ?_
      rw [hcur, List.getElem?_append_left (by have := (List.getElem?_eq_some_iff.1 hj).1; omega)]
      exact hj)
  have hik : i + (n + m - i) = n + m := by omega
  have hkk : (n : Int) + (m : Int) - (i : Int) = ((n + m - i : Nat) : Int) := by omega
  obtain ⟨G, hG⟩ : ∃ G, G = grownCap w (n + m) c 38 := ⟨_, rfl⟩
  obtain ⟨Z, hZ⟩ : ∃ Z : List Value, Z = (Builtin.zeroCells (Value.agg #[.int .i64 0, .int .i64 0]).cells (n + m - i) ++ Builtin.zeroCells (Value.agg #[.int .i64 0, .int .i64 0]).cells (G - (n + m))).toList := ⟨_, rfl⟩
  have hGn : n + m ≤ G := by rw [hG]; exact grownCap_ge w _ _ _
  have hG63 : G ≤ maxLen := by rw [hG]; exact grownCap_le_maxLen w (n + m) c _ (by unfold maxLen; omega)
  have hZl : Z.length = (G - i) * 2 := by
    rw [hZ, Array.length_toList, Array.size_append, size_zeroCells, size_zeroCells]
    show (n + m - i) * 2 + (G - (n + m)) * 2 = _
    omega
  have hrz : (Builtin.append_ #[28, 3] 28 #[.slice (some ⟨b, 0, none⟩) i c, .int .i64 ((n : Int) + (m : Int) - (i : Int))]).run Try.prog w =
      .ok (.slice (some ⟨w.heap.size, 0, none⟩) (n + m) G) (w.drew.alloc (.cells (gv (l.take i) ++ Z).toArray 38)) := by
    have h := Lib.run_append_grow_zeros w 28 3 28 38 i0 _ .i64 .i64 Try.underlying28 Try.underlying3 hi0 hz0 (some ⟨b, 0, none⟩) i c (gv (l.take i)).toArray.toList (by simpa using hold) (n + m - i) (by omega) (by rw [hzs]; omega) (by omega) (by omega) (by rw [hzb]; omega) (by rw [hzb, hik]; exact growslice_fits hroom (by omega))
    rw [hik, ← hG] at h
    rw [hkk, h]
    congr 3
    rw [hZ]
    apply Array.ext'
    simp
  obtain ⟨W0, hrw, hW0, hB0, hz0⟩ : ∃ W0, (Builtin.append_ #[28, 3] 28 #[.slice (some ⟨b, 0, none⟩) i c, .int .i64 ((n : Int) + (m : Int) - (i : Int))]).run Try.prog w = .ok (.slice (some ⟨w.heap.size, 0, none⟩) (n + m) G) W0 ∧
      W0.heap[w.heap.size]? = some (.cells (gv (l.take i) ++ Z).toArray 38 (0, 0)) ∧ Below w.heap.size w W0 ∧ W0.heap.size = w.heap.size + 1 :=
    ⟨_, hrz, heap_alloc_new w.drew _, balloc (bdrew1 (brefl w)) _, by simp⟩
  have hlen1 : (splice (gv (l.take i) ++ Z) (i * 2) (gv vs)).length = G * 2 := by
    rw [size_splice _ _ _ (by rw [hY, List.length_append, hA, hZl]; omega), List.length_append, hA, hZl]; omega
  have hlen2 : (splice (splice (gv (l.take i) ++ Z) (i * 2) (gv vs)) ((i + m) * 2) (gv (l.drop i))).length = G * 2 := by
    rw [size_splice _ _ _ (by rw [hD, hlen1]; omega), hlen1]
  have hfin : splice (splice (gv (l.take i) ++ Z) (i * 2) (gv vs)) ((i + m) * 2) (gv (l.drop i)) = gv (l.take i ++ (vs ++ l.drop i)) ++ Z.drop (m * 2 + (n - i) * 2) := by
    have := ins_grow (gv (l.take i)) Z (gv vs) (gv (l.drop i))
    rw [hA, hY, hD, show i * 2 + m * 2 = (i + m) * 2 by omega] at this
    rw [this, gv_append, gv_append]
    simp
  have hsz : (gv (l.take i ++ (vs ++ l.drop i))).length = (n + m) * 2 := by
    rw [gv_length]; simp [hl, hvl]; omega
  have hl0 : (gv (l.take i) ++ Z).length = G * 2 := by rw [List.length_append, hA, hZl]; omega
  obtain ⟨L0, hL0⟩ : ∃ L0, L0 = gv (l.take i) ++ Z := ⟨_, rfl⟩
  rw [← hL0] at hlen1 hlen2 hfin hW0 hl0
  obtain ⟨L1, hL1⟩ : ∃ L1, L1 = splice L0 (i * 2) (gv vs) := ⟨_, rfl⟩
  rw [← hL1] at hlen1 hlen2 hfin
  obtain ⟨L2, hL2⟩ : ∃ L2, L2 = splice L1 ((i + m) * 2) (gv (l.drop i)) := ⟨_, rfl⟩
  rw [← hL2] at hfin hlen2
  have HV := Lib.hid (hv.below hB0)
  have HSD := Lib.hid (hsrcD.below hB0)
  have HF := Lib.hid hfin
  have HS := Lib.hid hsz
  have HL0 := Lib.hid hl0
  have HL1 := Lib.hid hL1
  have HL2 := Lib.hid hL2
  have HD := Lib.hid hD
  have HY := Lib.hid hY
  have HLL := Lib.hid hlen1
  have HLL2 := Lib.hid hlen2
  have HW0 := Lib.hid hW0
  have HB0 := Lib.hid hB0
  have HR := Lib.hid hrw
  have hk1 : ¬ c = i := by omega
  have hk2 : ¬ G = i + m := by omega
  have hk3 : ¬ G = i := by omega
  have hm0 : ¬ (m : Int) = 0 := by omega
  have hin : ¬ (i : Int) = (n : Int) := by omega
  have hvN : vb ≠ w.heap.size := by omega
  have hbN : b ≠ w.heap.size := by omega
  unfold maxLen at hG63
  unfold SInsIs
  obtain ⟨R, hR⟩ : ∃ R, R = gv (l.take i ++ (vs ++ l.drop i)) := ⟨_, rfl⟩
  rw [← hR] at HF HS ⊢
  clear hfin hsz hL1 hL2 hsrcD hh hD hY hlen1 hlen2 hcs hv hct hcur hA hl hvl hR hrz hrw hW0 hB0 hl0 hZl hL0 hZ hG hold hall hi0 hz0 hzs hzb hik hkk
  go_enter Try.func35, Try.ntmps35
  go_wp2_with (first
    | (refine Lib.wpList_append_run _ rfl _ _ _ _ rfl _ _ rfl rfl _ _ HR.out ?_)
    | (refine wpCopyL rfl _ _ 28 28 rfl 38 2 Try.underlying28 info_glyph2 w.heap.size (i * 2) _ _ ⟨vb, 0, none⟩ _ _ rfl rfl L0.toArray 38 HW0.out (gv vs) (by rw [HY.out]; simp only [Nat.min_def]; split <;> omega) (fun j v hj => by obtain ⟨p, hp, hc⟩ := HV.out j v hj; cases hp; exact hc) (by rw [HY.out, List.size_toArray, HL0.out]; omega) (gv_one _) ?_; intro W1 hW1 ho1 hz1 hb1; rw [← HL1.out] at hW1; have HW1 := Lib.hid hW1; have HO1 := Lib.hid ho1; have HB1 := Lib.hid (HB0.out.trans hb1); have HSD1 := Lib.hid (show Has W1 (some ⟨b, i * 2, none⟩) (gv (l.drop i)) from fun j u hu => by obtain ⟨p, hp, hc⟩ := HSD.out j u hu; cases hp; exact ⟨_, rfl, by rw [World.cell?_of_block (w := W0) (HO1.out _ (by rw [add_block]; exact hbN))]; exact hc⟩); clear hW1 ho1 hb1; dsimp only [Act.put]; simp only [List.setIfInBounds_toArray, List.set_cons_succ, List.set_cons_zero]))
  refine wp_region_last (.step 0 (.step 1 (.step 2 (.step 3 (.step 4 (.step 5 (.step 6 (.step 7 (.step 8 .nil))))))))) 8 (by kernel_rfl) (by kernel_rfl) (by kernel_rfl) (by kernel_rfl) (by kernel_rfl) (by intro _ _ d_ _ _ h_; cases d_ <;> first | exact h_ | (dsimp +zetaDelta only at h_ ⊢; exact h_)) (fun w' => ∃ p : Wld W1 [], w' = p.val) (wld_start _ _) ?_
  have hG_ := @wldC W1
  (refine z_quiet (by simp only [List.getElem?_toArray, List.getElem?_cons_succ, List.getElem?_cons_zero]; rfl) (by rfl) (by rfl) (fun K_ hK_ => ?_); go_big_quiet_op; refine hK_ _ ?_; clear hK_ K_)
  (refine z_quiet (by simp only [List.getElem?_toArray, List.getElem?_cons_succ, List.getElem?_cons_zero]; rfl) (by rfl) (by rfl) (fun K_ hK_ => ?_); go_big_quiet_op; refine hK_ _ ?_; clear hK_ K_)
  (refine z_quiet (by simp only [List.getElem?_toArray, List.getElem?_cons_succ, List.getElem?_cons_zero]; rfl) (by rfl) (by rfl) (fun K_ hK_ => ?_); go_big_quiet_op; refine hK_ _ ?_; clear hK_ K_)
  (refine z_quiet (by simp only [List.getElem?_toArray, List.getElem?_cons_succ, List.getElem?_cons_zero]; rfl) (by rfl) (by rfl) (fun K_ hK_ => ?_); go_big_quiet_op; refine hK_ _ ?_; clear hK_ K_)
  (refine z_quiet (by simp only [List.getElem?_toArray, List.getElem?_cons_succ, List.getElem?_cons_zero]; rfl) (by rfl) (by rfl) (fun K_ hK_ => ?_); go_big_quiet_op; refine hK_ _ ?_; clear hK_ K_)
  (refine z_quiet (by simp only [List.getElem?_toArray, List.getElem?_cons_succ, List.getElem?_cons_zero]; rfl) (by rfl) (by rfl) (fun K_ hK_ => ?_); go_big_quiet_op; refine hK_ _ ?_; clear hK_ K_)
  (refine z_quiet (by simp only [List.getElem?_toArray, List.getElem?_cons_succ, List.getElem?_cons_zero]; rfl) (by rfl) (by rfl) (fun K_ hK_ => ?_); go_big_quiet_op; refine hK_ _ ?_; clear hK_ K_)
  (refine z_quiet (by simp only [List.getElem?_toArray, List.getElem?_cons_succ, List.getElem?_cons_zero]; rfl) (by rfl) (by rfl) (fun K_ hK_ => ?_); go_big_quiet_op; refine hK_ _ ?_; clear hK_ K_)
  (refine z_last (by simp only [List.getElem?_toArray, List.getElem?_cons_succ, List.getElem?_cons_zero]; rfl) (by rfl) (by rfl) (by rfl) (fun K_ hK_ => ?_); have HK_ := Lib.hid hK_; clear hK_; (first | ((refine wpCopyO _ _ 28 28 rfl 38 2 Try.underlying28 info_glyph2 w.heap.size ((i + m) * 2) _ _ ⟨b, i * 2, none⟩ _ _ rfl rfl L1.toArray 38 HW1.out (gv (l.drop i)) (by rw [HD.out]; simp only [Nat.min_def]; split <;> omega) (fun j v hj => by obtain ⟨p, hp, hc⟩ := HSD1.out j v hj; cases hp; exact hc) (by rw [HD.out, List.size_toArray, HLL.out]; omega) (gv_one _) ?_; intro W2 hW2 ho2 hz2 hb2; rw [← HL2.out] at hW2; have HW2 := Lib.hid hW2; have HO2 := Lib.hid (show ∀ k, k ≠ w.heap.size → W2.heap[k]? = W1.heap[k]? from ho2); have HB2 := Lib.hid (show Below w.heap.size w W2 from (HB1.out.drew).trans hb2); clear hW2 ho2 hb2 hz2)) | (go_wp2_with (fail))); refine HK_.out _ _ ?_; clear HK_)
  refine z_nil ?_
  clear hG_
  go_wp2_with fail
  go_ret
  refine ⟨some ⟨w.heap.size, 0, none⟩, G, rfl, ⟨HS.out, .inr ⟨w.heap.size, G, _, rfl, hB, HW2.out, hGn, by unfold maxLen; omega, by rw [List.size_toArray, HLL2.out], ?_⟩⟩, RStep.of_new HB2.out hB (fun p hp => by cases hp; exact Nat.le_refl _)⟩
  rw [HF.out, ← HS.out, List.take_left]
end Go.Proofs.Ytjkddbbjbfajaaa
