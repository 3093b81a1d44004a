
/- line.isOrder; (*line.Line).Order; the document's Order. Conditions: a line in memory; as many numbers as the slice says; sizes. -/
import Derived.Test.YtjkddbbjbfajaaaGIns2
namespace Go.Proofs.Ytjkddbbjbfajaaa
open Go.RowKit Go.Lib

/-- The numbers from 0 on, below how many they are, each once. -/
def IsOrd (o : List Int) : Prop := (∀ z ∈ o, 0 ≤ z ∧ z < (o.length : Int)) ∧ o.Nodup
instance (o : List Int) : Decidable (IsOrd o) := inferInstanceAs (Decidable (_ ∧ _))
def bv (l : List Bool) : List Value := l.map fun b => .bool b
theorem info_boolG : (Try.prog.info? 4).map (fun i => (i.zero, i.size, i.bytes)) = some (some (.bool false), 1, 1) := by kernel_rfl
theorem made_bool (n : Nat) : (madeCells (Value.bool false).cells (n * 1)).toList = bv (List.replicate n false) := by
  apply List.ext_getElem
  · simp [madeCells, bv]
  · intro i h1 h2
    simp [madeCells, bv, Value.cells, Nat.mod_one]
theorem bv_get {l : List Bool} {j : Nat} {b : Bool} (h : l[j]? = some b) : (bv l)[j]? = some (.bool b) := by simp [bv, h]
theorem bv_set (l : List Bool) (j : Nat) (b : Bool) : (bv l).set j (.bool b) = bv (l.set j b) := by simp [bv, List.map_set]
/-- What is marked behind the first k. -/
def seenL (o : List Int) (k : Nat) : List Bool := (List.range o.length).map fun (i : Nat) => decide ((i : Int) ∈ o.take k)
theorem seenL_zero (o : List Int) : seenL o 0 = List.replicate o.length false := by
  apply List.ext_getElem <;> simp [seenL]
theorem seenL_length (o : List Int) (k : Nat) : (seenL o k).length = o.length := by simp [seenL]
theorem seenL_get (o : List Int) (k i : Nat) (h : i < o.length) : (seenL o k)[i]? = some (decide ((i : Int) ∈ o.take k)) := by
  simp [seenL, h]
theorem seenL_set (o : List Int) (k i : Nat) (h : o[k]? = some (i : Int)) (hi : i < o.length) : (seenL o k).set i true = seenL o (k + 1) := by
  apply List.ext_getElem?
  intro q
  rw [List.getElem?_set]
  by_cases hq : i = q
  · subst hq
    rw [if_pos rfl, seenL_length, if_pos hi, seenL_get _ _ _ hi, List.take_add_one, h]
    simp
  · rw [if_neg hq]
    by_cases hl : q < o.length
    · rw [seenL_get _ _ _ hl, seenL_get _ _ _ hl, List.take_add_one, h]
      have : ¬ ((q : Int) = (i : Int)) := by omega
      simp [this]
    · rw [List.getElem?_eq_none (by rw [seenL_length]; omega), List.getElem?_eq_none (by rw [seenL_length]; omega)]
/-- The first k are fine so far. -/
def OrdTo (o : List Int) (k : Nat) : Prop := (∀ z ∈ o.take k, 0 ≤ z ∧ z < (o.length : Int)) ∧ (o.take k).Nodup
theorem OrdTo.succ {o : List Int} {k : Nat} {z : Int} (h : OrdTo o k) (hz : o[k]? = some z) (h0 : 0 ≤ z) (h1 : z < (o.length : Int)) (hn : z ∉ o.take k) : OrdTo o (k + 1) := by
  have e : o.take (k + 1) = o.take k ++ [z] := by rw [List.take_add_one, hz]; rfl
  refine ⟨fun y hy => ?_, ?_⟩
  · rw [e, List.mem_append, List.mem_singleton] at hy
    rcases hy with hy | rfl
    · exact h.1 y hy
    · exact ⟨h0, h1⟩
  · rw [e, List.nodup_append]
    exact ⟨h.2, by simp, fun a ha b hb => by simp at hb; subst hb; rintro rfl; exact hn ha⟩
theorem OrdTo.all {o : List Int} (h : OrdTo o o.length) : IsOrd o := by
  rw [OrdTo, List.take_length] at h
  exact h
theorem notOrd {o : List Int} {k : Nat} {z : Int} (hz : o[k]? = some z) (h : z < 0 ∨ (o.length : Int) ≤ z ∨ z ∈ o.take k) : ¬ IsOrd o := by
  rintro ⟨h1, h2⟩
  have hm := List.mem_of_getElem? hz
  have := h1 z hm
  rcases h with h | h | h
  · omega
  · omega
  · obtain ⟨j, hj⟩ := List.getElem?_of_mem h
    have hjk : j < k := by have := (List.getElem?_eq_some_iff.1 hj).1; rw [List.length_take] at this; omega
    rw [List.getElem?_take, if_pos hjk] at hj
    have := (List.getElem?_inj (i := j) (j := k) (by have := (List.getElem?_eq_some_iff.1 hz).1; omega) h2).1 (hj.trans hz.symm)
    omega
set_option maxHeartbeats 1600000 in
set_option maxRecDepth 100000 in
theorem isOrder_any (a : Option Addr) (n c : Nat) (o : List Int) (w : World) (h : Has w a (iv o)) (hl : o.length = n) (hn : n ≤ 1000000) :
    Calls Try.prog 36 #[.slice a n c] w fun e w' => e = .returned (.bool (decide (IsOrd o))) ∧ Below w.heap.size w w' := by
  have HH := Lib.hid h
  have HL := Lib.hid hl
  clear h hl
  go_enter Try.func36, Try.ntmps36
  go_wp2_with (refine wpMake w rfl _ _ 64 rfl w.heap.size 4 (.bool false) 1 1 Try.underlying64 info_boolG n rfl rfl (by omega) (by unfold maxLen; omega) (Nat.le_refl _) ?_; intro w1 hown hb1; rw [made_bool] at hown; have HO := Lib.hid hown; have HB1 := Lib.hid hb1; clear hown hb1)
  go_loopw [11] (fun i wr => ∃ j : Nat, j ≤ n ∧ i = .int .i64 (j : Nat) ∧ OrdTo o j ∧ wr.ownsRow w.heap.size 4 1 (.slice (some ⟨w.heap.size, 0, none⟩) n n) n (bv (seenL o j)) ∧ Below w.heap.size w wr) (fun i _ => n - (intOf i).toNat)
  case atStart => exact ⟨0, Nat.zero_le _, rfl, ⟨by simp, by simp⟩, by rw [seenL_zero, HL.out]; exact HO.out, HB1.out⟩
  case round =>
    obtain ⟨j, hj, rfl, hto, ho, hb⟩ := hrel
    have HT := Lib.hid hto
    have HX := Lib.hid ho
    have HB := Lib.hid hb
    clear hto ho hb
    by_cases hlt : j < n
    · obtain ⟨gi, oi, z, rfl, hgi, hz, hci⟩ := iv_at (HH.out.below HB.out) (k := j) (by rw [HL.out]; exact hlt)
      have HZ := Lib.hid hz
      clear hz
      by_cases h0 : z < 0
      · have hf : decide (IsOrd o) = false := decide_eq_false (notOrd HZ.out (.inl h0))
        have HF := Lib.hid hf
        have d0 : decide (z < 0) = true := by simpa using h0
        clear hf
        go_wp2_with fail
        go_ret
        exact ⟨by rw [HF.out]; rfl, HB.out⟩
      by_cases h1 : (n : Int) ≤ z
      · have hf : decide (IsOrd o) = false := decide_eq_false (notOrd HZ.out (.inr (.inl (by rw [HL.out]; exact h1))))
        have HF := Lib.hid hf
        have d0 : decide (z < 0) = false := by simpa using h0
        have d1 : decide ((n : Int) ≤ z) = true := by simpa using h1
        clear hf
        go_wp2_with fail
        go_ret
        exact ⟨by rw [HF.out]; rfl, HB.out⟩
      obtain ⟨q, rfl⟩ : ∃ q : Nat, z = q := ⟨z.toNat, by omega⟩
      have hq : q < n := by omega
      obtain ⟨g2, cs2, u2, he, _, hh2, hc2, hu2, f2, hs2⟩ := row_at HX.out q (by omega)
      cases he
      have hc3 := HX.out.cellAt q (by omega)
      rw [bv_get (seenL_get o j q (by rw [HL.out]; exact hq))] at hc3
      have d0 : decide ((q : Int) < 0) = false := by simp
      have d1 : decide ((n : Int) ≤ (q : Int)) = false := by simp; omega
      have d2 : decide (n ≤ q) = false := by simp; omega
      clear hc2 hu2 hh2 h0 h1
      by_cases hin : (q : Int) ∈ o.take j
      · have hf : decide (IsOrd o) = false := decide_eq_false (notOrd HZ.out (.inr (.inr hin)))
        have HF := Lib.hid hf
        rw [decide_eq_true hin] at hc3
        clear hf hin hs2
        go_wp2_with fail
        go_ret
        exact ⟨by rw [HF.out]; rfl, HB.out⟩
      · rw [decide_eq_false hin] at hc3
        have HTS := Lib.hid (HT.out.succ HZ.out (by omega) (by rw [HL.out]; omega) hin)
        have hs := hs2 (.bool true)
        rw [bv_set, seenL_set o j q HZ.out (by rw [HL.out]; exact hq)] at hs
        have HS := Lib.hid hs
        have HB2 := Lib.hid (HB.out.setCell (p := ⟨w.heap.size, q, none⟩) (Nat.le_refl _) (.bool true))
        clear hs hs2 hin
        go_wp2_with fail
        go_roundw
        case rel => exact ⟨j + 1, hlt, by go_num, HTS.out, HS.out, HB2.out⟩
        case measure => simp [intOf]; omega
    · obtain rfl : n = j := by omega
      have hl := HL.out
      have ht := HT.out
      rw [← hl] at ht
      have hf : decide (IsOrd o) = true := decide_eq_true ht.all
      have HF := Lib.hid hf
      clear hl ht hf
      go_wp2_with fail
      go_ret
      exact ⟨by rw [HF.out]; rfl, HB.out⟩
def pickG (l : List (Int × Int)) (f : Nat) (o : List Int) : List (Int × Int) := o.map fun z => l.getD (f + z.toNat) (0, 0)
/-- The first k of an order are laid. -/
def putO (l : List (Int × Int)) (f : Nat) (o : List Int) (k : Nat) : List (Int × Int) := l.take f ++ (pickG l f (o.take k) ++ l.drop (f + k))
theorem putO_zero (l : List (Int × Int)) (f : Nat) (o : List Int) : putO l f o 0 = l := by simp [putO, pickG]
theorem putO_length (l : List (Int × Int)) (f : Nat) (o : List Int) (k : Nat) (hk : k ≤ o.length) (h : f + k ≤ l.length) : (putO l f o k).length = l.length := by
  simp [putO, pickG]; omega
theorem putO_set (l : List (Int × Int)) (f : Nat) (o : List Int) (k q : Nat) (p : Int × Int) (hq : o[k]? = some (q : Int)) (hp : l[f + q]? = some p) (h : f + k < l.length) : (putO l f o k).set (f + k) p = putO l f o (k + 1) := by
  have hk : k < o.length := (List.getElem?_eq_some_iff.1 hq).1
  have e1 : (l.take f).length = f := by rw [List.length_take]; omega
  have e2 : (pickG l f (o.take k)).length = k := by rw [pickG, List.length_map, List.length_take]; omega
  have e3 : pickG l f (o.take (k + 1)) = pickG l f (o.take k) ++ [p] := by
    rw [pickG, pickG, List.take_add_one, hq, List.map_append]
    simp [List.getD_eq_getElem?_getD, hp]
  have e4 : l.drop (f + k) = l[f + k] :: l.drop (f + k + 1) := List.drop_eq_getElem_cons h
  rw [putO, putO, List.set_append_right _ _ (by omega), e1, show f + k - f = k by omega, List.set_append_right _ _ (by omega), e2, Nat.sub_self, e4, List.set_cons_zero, e3]
  simp [Nat.add_assoc]
def okO (l : List (Int × Int)) (z : Int) (o : List Int) : Bool := decide (0 ≤ z) && decide ((o.length : Int) ≤ (l.length : Int) - z) && decide (IsOrd o)
def ordG (l : List (Int × Int)) (z : Int) (o : List Int) : List (Int × Int) := if okO l z o then putO l z.toNat o o.length else l
theorem ordG_length (l : List (Int × Int)) (z : Int) (o : List Int) : (ordG l z o).length = l.length := by
  unfold ordG
  split
  · rename_i h
    simp only [okO, Bool.and_eq_true, decide_eq_true_eq] at h
    exact putO_length l z.toNat o _ (Nat.le_refl _) (by omega)
  · rfl
theorem GIs.put {B g gb : Nat} {c : Nat} {l : List (Int × Int)} {w : World} (h : GIs B g (some ⟨gb, 0, none⟩) c l w) {j : Nat} (hj : j < l.length) (x y : Int) : GIs B g (some ⟨gb, 0, none⟩) c (l.set j (x, y)) ((w.setCell ⟨gb, j * 2, none⟩ (.int .i64 x)).setCell ⟨gb, j * 2 + 1, none⟩ (.int .i64 y)) := by
  obtain ⟨gb', he, _, _, _, _, _, _, _, h1, _⟩ := h.glyph (List.getElem?_eq_getElem hj)
  cases he
  obtain ⟨gb', he, _, _, _, _, _, _, _, _, h2⟩ := (h1 x).glyph (j := j) (p := (x, l[j].2)) (by rw [List.getElem?_set_self hj])
  cases he
  have := h2 y
  rwa [List.set_set] at this
def OrdIs (B g : Nat) (a : Option Addr) (c : Nat) (l : List (Int × Int)) (z : Int) (o : List Int) (w : World) (e : Ending) (w' : World) : Prop :=
  e = .returned (.bool (okO l z o)) ∧ GIs B g a c (ordG l z o) w' ∧ GStep B g a a w w'
set_option maxHeartbeats 3200000 in
set_option maxRecDepth 100000 in
theorem gord_any (B g : Nat) (a : Option Addr) (c : Nat) (l : List (Int × Int)) (z : Int) (ai : Option Addr) (m ci : Nat) (o : List Int) (w : World) (h : GIs B g a c l w) (hi : Has w ai (iv o)) (hd1 : ∀ p, ai = some p → 0 < m → p.block ≠ g) (hd2 : ∀ p q, ai = some p → a = some q → 0 < m → p.block ≠ q.block) (hil : o.length = m) (hB : B ≤ g) (hBw : B ≤ w.heap.size) (hn : l.length ≤ 1000000) (hm : m ≤ 1000000) (hz1 : -9223372036854775808 ≤ z) (hz2 : z ≤ 9223372036854775807) :
    Calls Try.prog 24 #[.pointer (some ⟨g, 0, none⟩), .int .i64 z, .slice ai m ci] w (OrdIs B g a c l z o w) := by
  have HG := Lib.hid h
  have q0 := cell_of_heap h.hd 0
  simp only [List.getElem?_toArray, List.getElem?_cons_zero] at q0
  have hnc := h.slice.1
  have hcm := h.slice.2.1
  have hgw := (Array.getElem?_eq_some_iff.1 h.hd).1
  have HI := Lib.hid hi
  have HIL := Lib.hid hil
  have HIO := Lib.hid (fun W (hW : Below w.heap.size w W) => isOrder_any ai m ci o W (hi.below hW) hil hm)
  have HS0 := Lib.hid (GStep.of_below (B := B) (g := g) (a := a) (Below.refl w.heap.size w) hBw)
  unfold maxLen at hcm
  unfold OrdIs
  obtain ⟨n, hnl⟩ : ∃ n, n = l.length := ⟨_, rfl⟩
  have HN := Lib.hid hnl
  rw [← hnl] at q0 hn hnc
  clear h hi hil hnl
  by_cases h0 : z < 0
  · have hok : okO l z o = false := by simp only [okO, Bool.and_eq_false_iff, decide_eq_false_iff_not]; omega
    have hor : ordG l z o = l := by rw [ordG, if_neg (by rw [hok]; decide)]
    have HOR := Lib.hid hor
    have d0 : decide (z < 0) = true := by simpa using h0
    rw [hok]
    clear hok hor h0
    go_enter Try.func24, Try.ntmps24
    go_wp2_with fail
    go_ret
    exact ⟨rfl, by rw [HOR.out]; exact HG.out, HS0.out⟩
  have d0 : decide (z < 0) = false := by simpa using h0
  by_cases h1 : (n : Int) - z < (m : Int)
  · have hok : okO l z o = false := by simp only [okO, Bool.and_eq_false_iff, decide_eq_false_iff_not, HIL.out, ← HN.out]; omega
    have hor : ordG l z o = l := by rw [ordG, if_neg (by rw [hok]; decide)]
    have HOR := Lib.hid hor
    have d1 : decide ((n : Int) - z < (m : Int)) = true := by simpa using h1
    rw [hok]
    clear hok hor h1
    go_enter Try.func24, Try.ntmps24
    go_wp2_with fail
    go_ret
    exact ⟨rfl, by rw [HOR.out]; exact HG.out, HS0.out⟩
  have d1 : decide ((n : Int) - z < (m : Int)) = false := by simpa using h1
  by_cases h2 : IsOrd o
  case neg =>
    have hok : okO l z o = false := by simp only [okO, decide_eq_false h2, Bool.and_false]
    have hor : ordG l z o = l := by rw [ordG, if_neg (by rw [hok]; decide)]
    have HOR := Lib.hid hor
    rw [decide_eq_false h2] at HIO
    rw [hok]
    clear hok hor h1 h2
    go_enter Try.func24, Try.ntmps24
    go_wp2_with (go_at_call 36; (with_reducible refine (HIO.out _ (by exact blw)).mono ?_); rintro e w1 ⟨rfl, hb1⟩; have HB1 := Lib.hid hb1; clear hb1)
    go_ret
    exact ⟨rfl, by rw [HOR.out]; exact HG.out.below HB1.out, GStep.of_below HB1.out hBw⟩
  obtain ⟨f, rfl⟩ : ∃ f : Nat, z = f := ⟨z.toNat, by omega⟩
  have hfm : f + m ≤ n := by omega
  have hok : okO l (f : Nat) o = true := by
    simp only [okO, Bool.and_eq_true, decide_eq_true_eq, HIL.out, ← HN.out]
    exact ⟨⟨by omega, by omega⟩, h2⟩
  have HOR := Lib.hid (show ordG l (f : Nat) o = putO l f o m by rw [ordG, if_pos hok, Int.toNat_natCast, HIL.out])
  have H2 := Lib.hid h2
  rw [decide_eq_true h2] at HIO
  rw [hok]
  clear hok h1 h2 h0
  have hcl := (show (((l.drop f).take m)).length = m by rw [List.length_take, List.length_drop, ← HN.out]; omega)
  have HCL := Lib.hid hcl
  clear hcl
  by_cases hcf : c = f
  · subst hcf
    obtain rfl : m = 0 := by omega
    obtain rfl : c = n := by omega
    have HCN := Lib.hid (fun W => gclone_any a 0 0 [] W (Has.nil _ _) rfl (by decide))
    go_enter Try.func24, Try.ntmps24
    go_wp2_with (first
      | (go_at_call 36; (with_reducible refine (HIO.out _ (by exact blw)).mono ?_); rintro e w1 ⟨rfl, hb1⟩; have HB1 := Lib.hid hb1; have h1c := bc hb1; clear hb1)
      | (go_at_call 30; (with_reducible refine (HCN.out _).mono ?_); rintro e w2 ⟨a2, c2, rfl, ho, _, _, _, hb2⟩; have HB2 := Lib.hid (HB1.out.trans (hb2.mono HB1.out.size)); clear ho hb2))
    go_loopw [44] (fun i wr => i = .int .i64 0 ∧ Below w.heap.size w wr) (fun i _ => 0)
    case atStart => exact ⟨rfl, HB2.out⟩
    case round =>
      obtain ⟨rfl, hb⟩ := hrel
      have HB := Lib.hid hb
      clear hb
      go_wp2_with fail
      go_ret
      refine ⟨rfl, ?_, GStep.of_below HB.out hBw⟩
      rw [HOR.out, putO_zero]
      exact HG.out.below HB.out
  obtain ⟨gb, rfl⟩ : ∃ gb, a = some ⟨gb, 0, none⟩ := by
    rcases HG.out.row.2 with ⟨he, _⟩ | ⟨g5, _, _, he, _⟩
    · injection he with e1 e2 e3; omega
    · injection he with e1 e2 e3; exact ⟨g5, e1⟩
  have hgb := HG.out.row.lt gb rfl
  have HRW := Lib.hid (show Has w (some ⟨gb, f * 2, none⟩) (gv ((l.drop f).take m)) by
    have h1 := Has.adv HG.out.has (c * 2) (f * 2) (by rw [gv_length, ← HN.out]; omega)
    rw [adv, if_neg (by omega), ← gv_drop] at h1
    rw [gv_take]
    have h2 := h1.take (m * 2)
    simpa [Addr.add_lit] using h2)
  have HCN := Lib.hid (fun W (hW : Below w.heap.size w W) c' => gclone_any (some ⟨gb, f * 2, none⟩) m c' ((l.drop f).take m) W (HRW.out.below hW) HCL.out hm)
  have hd9 : ((f : Int) + (m : Int)) = ((f + m : Nat) : Int) := by omega
  clear hd9
  go_enter Try.func24, Try.ntmps24
  go_wp2_with (first
    | (go_at_call 36; (with_reducible refine (HIO.out _ (by exact blw)).mono ?_); rintro e w1 ⟨rfl, hb1⟩; have HB1 := Lib.hid hb1; have h1c := bc hb1; clear hb1)
    | (go_at_call 30; (with_reducible refine (HCN.out _ HB1.out _).mono ?_); rintro e w2 ⟨a2, c2, rfl, ho, k21, k22, k23, hb2⟩; have HW2 := Lib.hid (owns_mono ho HB1.out.size); have HB2 := Lib.hid (HB1.out.trans (hb2.mono HB1.out.size)); clear ho hb2))
  have HD1 := Lib.hid hd1
  have HD2 := Lib.hid hd2
  obtain ⟨W, hW⟩ : ∃ W, W = (l.drop f).take m := ⟨_, rfl⟩
  rw [← hW] at HW2 HCL
  have HWL := Lib.hid (fun (q : Nat) (hq : q < m) => show l[f + q]? = W[q]? by rw [hW, List.getElem?_take, if_pos hq, List.getElem?_drop])
  have hne : gb ≠ g := by rintro rfl; exact HG.out.ne rfl
  clear hd1 hd2 hW h1c HRW HCN HIO
  go_loopw [44] (fun i wr => ∃ j : Nat, j ≤ m ∧ i = .int .i64 (j : Nat) ∧ GIs B g (some ⟨gb, 0, none⟩) c (putO l f o j) wr ∧ wr.ownsRow w.heap.size 38 2 (.slice a2 m c2) m (gv W) ∧ GStep B g (some ⟨gb, 0, none⟩) (some ⟨gb, 0, none⟩) w wr) (fun i _ => m - (intOf i).toNat)
  case atStart => exact ⟨0, Nat.zero_le _, rfl, by rw [putO_zero]; exact HG.out.below HB2.out, HW2.out, GStep.of_below HB2.out hBw⟩
  case round =>
    obtain ⟨j, hj, rfl, hg, ho, hs⟩ := hrel
    have HG3 := Lib.hid hg
    have HW3 := Lib.hid ho
    have HS3 := Lib.hid hs
    clear hg ho hs
    by_cases hlt : j < m
    · obtain ⟨gi, oi, z, rfl, hgi, hz, hci⟩ := iv_at (HS3.out.has HI.out (fun p hp => HD1.out p hp (by omega)) (fun p q hp hq => HD2.out p q hp hq (by omega))) (k := j) (by rw [HIL.out]; exact hlt)
      have hzr := H2.out.1 z (List.mem_of_getElem? hz)
      obtain ⟨q, rfl⟩ : ∃ q : Nat, z = q := ⟨z.toNat, by omega⟩
      have hq : q < m := by have := HIL.out; omega
      obtain ⟨g2, p, ha2, hg2w, hg2s, hp, hc1, hc2, _, _, _⟩ := grow_at HW3.out HCL.out hq
      subst ha2
      have hpl : l[f + q]? = some p := by rw [HWL.out q hq]; exact hp
      have hfj : f + j < (putO l f o j).length := by rw [putO_length _ _ _ _ (by rw [HIL.out]; omega) (by rw [← HN.out]; omega), ← HN.out]; omega
      have hput := HG3.out.put hfj p.1 p.2
      rw [putO_set l f o j q p hz hpl (by rw [← HN.out]; omega)] at hput
      obtain ⟨gb', he, _, hgbw, _, hd1, hd2, hf1, hf2, _, _⟩ := HG3.out.glyph (List.getElem?_eq_getElem hfj)
      cases he
      have hW4 : (( wr.setCell ⟨gb, (f + j) * 2, none⟩ (.int .i64 p.1)).setCell ⟨gb, (f + j) * 2 + 1, none⟩ (.int .i64 p.2)).ownsRow w.heap.size 38 2 (.slice (some ⟨g2, 0, none⟩) m c2) m (gv W) :=
        set_owns _ (set_owns _ HW3.out (fun e => absurd (show gb = g2 by simpa [Value.ownBlock] using e) (by omega))) (fun e => absurd (show gb = g2 by simpa [Value.ownBlock] using e) (by omega))
      have hS4 : GStep B g (some ⟨gb, 0, none⟩) (some ⟨gb, 0, none⟩) w ((wr.setCell ⟨gb, (f + j) * 2, none⟩ (.int .i64 p.1)).setCell ⟨gb, (f + j) * 2 + 1, none⟩ (.int .i64 p.2)) :=
        (HS3.out.trans (GStep.set _ rfl hgb.1)).trans (GStep.set _ rfl hgb.1)
      have e2 : (f + j) * 2 = f * 2 + j * 2 := by omega
      rw [e2] at hput hW4 hS4 hd1 hd2 hf1 hf2
      have HG4 := Lib.hid hput
      have HW4 := Lib.hid hW4
      have HS4 := Lib.hid hS4
      generalize (putO l f o j)[f + j] = r at *
      obtain ⟨p1, p2⟩ := p
      simp only at hc1 hc2
      clear hput hW4 hS4 hp hpl hz hzr e2
      go_wp2_with fail
      go_roundw
      case rel => exact ⟨j + 1, hlt, by go_num, HG4.out, HW4.out, HS4.out⟩
      case measure => simp [intOf]; omega
    · obtain rfl : m = j := by omega
      go_wp2_with fail
      go_ret
      exact ⟨rfl, by rw [HOR.out]; exact HG3.out, HS3.out⟩
end Go.Proofs.Ytjkddbbjbfajaaa
