/- Joined from: GTurn GDel GFrame. -/
import Derived.Shelf.SlicesQ.Reverse
import Derived.Test.YtlgkikmmpnnnfaaJ13
import Derived.Test.YtlgkikmmpnnnfaaShelfG
import Derived.Test.YtlgkikmmpnnnfaaJ01
import Derived.ChangeSame
import Derived.Deep.Strs
section

/- (*line.Line).Turn: the glyphs in turned order. Conditions: a line in memory; sizes. -/
namespace Go.Proofs.Ytlgkikmmpnnnfaa
open Go.RowKit Go.Lib Go.Sort

end Go.Proofs.Ytlgkikmmpnnnfaa
end
section

/- slices.DeleteFunc at glyphs, by what is deleted; (*line.Line).Clean. Conditions: a row of its own; sizes. -/
namespace Go.Proofs.Ytlgkikmmpnnnfaa
open Go.RowKit Go.Lib

set_option maxHeartbeats 400000 in
theorem clean1_any (p1 p2 : Int) (w : World) : Calls Try.prog 75 #[.agg #[.int .i64 p1, .int .i64 p2]] w fun e w' => e = .returned (.bool (p1 == 65535)) ∧ Below w.heap.size w w' := by
  go_enter Try.func75, Try.ntmps75
  go_wp2_with fail
  go_ret
  exact ⟨rfl, blw⟩
/-- The first deleted glyph, or -1. -/
def IdxIs (l : List (Int × Int)) (z : Int) : Prop := (z = -1 ∧ ∀ (j : Nat) p, l[j]? = some p → p.1 ≠ 65535) ∨ ∃ k : Nat, z = (k : Nat) ∧ k < l.length ∧ (∃ p, l[k]? = some p ∧ p.1 = 65535) ∧ ∀ (j : Nat) p, j < k → l[j]? = some p → p.1 ≠ 65535
set_option maxHeartbeats 1600000 in
theorem idxf_any (a : Option Addr) (n c : Nat) (l : List (Int × Int)) (w : World) (h : Has w a (gv l)) (hl : l.length = n) (hn : n ≤ 1000000) :
    Calls Try.prog 104 #[.slice a n c, .func (.func 75) #[] #[]] w fun e w' => ∃ z, e = .returned (.int .i64 z) ∧ IdxIs l z ∧ Below w.heap.size w w' := by
  have HH := Lib.hid h
  have HL := Lib.hid hl
  have HC := Lib.hid clean1_any
  clear h hl
  go_enter Try.func104, Try.ntmps104
  go_wp2_with fail
  go_loopw [8] (fun i wr => ∃ j : Nat, j ≤ n ∧ i = .int .i64 (j : Nat) ∧ (∀ (k : Nat) p, k < j → l[k]? = some p → p.1 ≠ 65535) ∧ Below w.heap.size w wr) (fun i _ => n - (Go.RowKit.intOf i).toNat)
  case atStart => exact ⟨0, Nat.zero_le _, rfl, fun k p hk => absurd hk (by omega), blw⟩
  case round =>
    obtain ⟨j, hj, rfl, hx, hb⟩ := hrel
    have HX := Lib.hid hx
    have HB := Lib.hid hb
    clear hx hb
    by_cases hlt : j < n
    · obtain ⟨gi, oi, p, rfl, hgi, hp, hc1, hc2⟩ := gv_at (HH.out.below HB.out) (k := j) (by rw [HL.out]; omega)
      have HP := Lib.hid hp
      obtain ⟨p1, p2⟩ := p
      simp only at hc1 hc2
      clear hp
      by_cases h6 : p1 = 65535
      · subst h6
        have e6 : ((65535 : Int) == 65535) = true := by decide
        go_wp2_with (go_at_call 75; (with_reducible refine (HC.out 65535 p2 _).mono ?_); rintro e w1 ⟨rfl, hb1⟩; rw [e6]; have HB1 := Lib.hid (HB.out.trans (hb1.mono HB.out.size)); clear hb1)
        go_ret
        exact ⟨_, rfl, .inr ⟨j, rfl, (List.getElem?_eq_some_iff.1 HP.out).1, ⟨_, HP.out, rfl⟩, HX.out⟩, HB1.out⟩
      · have e6 : (p1 == 65535) = false := by simpa using h6
        go_wp2_with (go_at_call 75; (with_reducible refine (HC.out p1 p2 _).mono ?_); rintro e w1 ⟨rfl, hb1⟩; rw [e6]; have HB1 := Lib.hid (HB.out.trans (hb1.mono HB.out.size)); clear hb1)
        go_roundw
        case rel =>
          refine ⟨j + 1, hlt, by go_num, fun k p hk hp => ?_, HB1.out⟩
          by_cases hkj : k = j
          · subst hkj
            rw [HP.out] at hp
            cases hp
            exact h6
          · exact HX.out k p (by omega) hp
        case measure => simp [Go.RowKit.intOf]; omega
    · obtain rfl : n = j := by omega
      go_wp2_with fail
      go_ret
      exact ⟨_, rfl, .inl ⟨rfl, fun k p hp => HX.out k p (by have := (List.getElem?_eq_some_iff.1 hp).1; have := HL.out; omega) hp⟩, HB.out⟩
theorem zero_glyph (n : Nat) : (Builtin.zeroCells (Value.agg #[.int .i64 0, .int .i64 0]).cells n).toList = gv (List.replicate n (0, 0)) := by
  apply List.ext_getElem
  · rw [Array.length_toList, size_zeroCells, gv_length, List.length_replicate]; rfl
  · intro i h1 h2
    have hlt : i < n * 2 := by rw [gv_length, List.length_replicate] at h2; exact h2
    have hd : i / 2 < n := by omega
    have hg : (List.replicate n ((0 : Int), (0 : Int)))[i / 2]? = some (0, 0) := by rw [List.getElem?_replicate, if_pos hd]
    have hr : (gv (List.replicate n (0, 0)))[i]? = some (.int .i64 0) := by
      rcases Nat.mod_two_eq_zero_or_one i with h | h
      · have := gv_fst hg; rwa [show i / 2 * 2 = i by omega] at this
      · have := gv_snd hg; rwa [show i / 2 * 2 + 1 = i by omega] at this
    rw [List.getElem?_eq_getElem h2] at hr
    rw [Option.some.inj hr]
    rcases Nat.mod_two_eq_zero_or_one i with h | h <;> simp [Builtin.zeroCells, Value.cells, h]
theorem run_clearG (w : World) (ty : TypeId) (g off n c : Nat) (cur : Array Value) (t : TypeId) (hg : w.heap[g]? = some (.cells cur t (0, 0))) (hn : 0 < n) (hfit : off + n * 2 ≤ cur.size) :
    ∃ w', (Builtin.clear_ #[41] ty #[.slice (some ⟨g, off, none⟩) n c]).run Try.prog w = .ok (.tuple #[]) w' ∧ w'.heap[g]? = some (.cells (splice cur.toList off (gv (List.replicate n (0, 0)))).toArray t (0, 0)) ∧ (∀ k, k ≠ g → w'.heap[k]? = w.heap[k]?) ∧ Below g w w' := by
  have hl : (gv (List.replicate n (0, 0))).length = n * 2 := by rw [gv_length, List.length_replicate]
  have hst := run_storeCells_at Try.prog g off t (gv (List.replicate n (0, 0))) 0 cur w hg (by rw [hl]; simpa using hfit) (gv_one _)
  obtain ⟨m, rfl⟩ : ∃ m, n = m + 1 := ⟨n - 1, by omega⟩
  refine ⟨w.setRow g (splice cur.toList off (gv (List.replicate (m + 1) (0, 0)))).toArray, ?_, setRow_heap w g cur _ t _ hg, fun k hk => setRow_other w g k _ hk, below_setRow (Below.refl _ _) (Nat.le_refl _) _⟩
  simp [Builtin.clear_, run_underlying Try.underlying41, Try.zeroValue59, zero_glyph, hst, splice]
theorem RStep.then_below {B : Nat} {a a' : Option Addr} {w W w' : World} (h : RStep B a a' w W) (hb : Below W.heap.size W w') (hB : B ≤ W.heap.size) : RStep B a a' w w' :=
  ⟨h.below.trans (hb.mono hB), fun k hk ha => (hb.block k (Nat.lt_of_lt_of_le hk h.below.size)).trans (h.keep k hk ha), h.new⟩
theorem RStep.set {B : Nat} {g o : Nat} {w W : World} (h : RStep B (some ⟨g, 0, none⟩) (some ⟨g, 0, none⟩) w W) (hB : B ≤ g) (v : Value) : RStep B (some ⟨g, 0, none⟩) (some ⟨g, 0, none⟩) w (W.setCell ⟨g, o, none⟩ v) :=
  ⟨h.below.setCell (p := ⟨g, o, none⟩) hB v, fun k hk ha => by
    have hk' : k ≠ g := by rintro rfl; exact ha rfl
    rw [set_heap_other _ hk']; exact h.keep k hk ha, h.new⟩
theorem RStep.of_below {B : Nat} {a : Option Addr} {w w' : World} (h : Below w.heap.size w w') (hB : B ≤ w.heap.size) : RStep B a a w w' := (RStep.refl B a w).then_below h hB
theorem cleanG_none {l : List (Int × Int)} (h : ∀ (j : Nat) p, l[j]? = some p → p.1 ≠ 65535) : cleanG l = l := by
  rw [cleanG, List.filter_eq_self]
  intro p hp
  obtain ⟨j, hj⟩ := List.getElem?_of_mem hp
  simpa using h j p hj
def SDelIs (B : Nat) (a : Option Addr) (l : List (Int × Int)) (w : World) (e : Ending) (w' : World) : Prop :=
  ∃ c', e = .returned (.slice a (cleanG l).length c') ∧ w'.ownsRow B 59 2 (.slice a (cleanG l).length c') (cleanG l).length (gv (cleanG l)) ∧ RStep B a a w w'
theorem set_take {α : Type} (m : List α) (i : Nat) (x : α) (hi : i < m.length) : (m.set i x).take (i + 1) = m.take i ++ [x] := by
  rw [List.take_add_one, List.take_set_of_le (Nat.le_refl _), List.getElem?_set_self hi]; rfl
set_option maxHeartbeats 3200000 in
set_option maxRecDepth 100000 in
theorem sdel_any (B : Nat) (a : Option Addr) (n c : Nat) (l : List (Int × Int)) (w : World) (ho : w.ownsRow B 59 2 (.slice a n c) n (gv l)) (hl : l.length = n) (hn : n ≤ 1000000) (hB : B ≤ w.heap.size) :
    Calls Try.prog 74 #[.slice a n c, .func (.func 75) #[] #[]] w (SDelIs B a l w) := by
  have HO := Lib.hid ho
  have HL := Lib.hid hl
  have HC := Lib.hid clean1_any
  have HIX := Lib.hid (idxf_any a n c l w (has_of_owns ho) hl hn)
  obtain ⟨_, _, he, k1, k2, _⟩ := owns_slice ho
  cases he
  unfold maxLen at k2
  unfold SDelIs
  clear ho hl
  go_enter Try.func74, Try.ntmps74
  go_wp2_with (go_at_call 104; (with_reducible refine HIX.out.mono ?_); rintro e w1 ⟨z, rfl, (⟨rfl, hz⟩ | ⟨k, rfl, hkl, ⟨p, hk, hp⟩, hz⟩), hb1⟩; all_goals (have HZ := Lib.hid hz; have HB1 := Lib.hid hb1; clear hz hb1); all_goals (first | (have hkn : k < n := (by have := HL.out; omega); have hkm : ((k : Int) == -1) = false := beq_eq_false_iff_ne.2 (by omega)) | skip))
  · go_ret
    rw [cleanG_none HZ.out, HL.out]
    exact ⟨c, rfl, owns_below HO.out HB1.out (Nat.le_refl _), RStep.of_below HB1.out hB⟩
  · have hcl : cleanG (l.take k) = l.take k := cleanG_none fun j q hq => by
      have hj : j < k := by have := (List.getElem?_eq_some_iff.1 hq).1; rw [List.length_take] at this; omega
      rw [List.getElem?_take, if_pos hj] at hq
      exact HZ.out j q hj hq
    have hc1 : cleanG (l.take (k + 1)) = l.take k := by rw [cleanG_snoc hk, if_pos hp, List.append_nil, hcl]
    have HC1 := Lib.hid hc1
    clear hcl hc1 hk hp HIX
    obtain ⟨g, rfl⟩ : ∃ g, a = some ⟨g, 0, none⟩ := by
      rcases HO.out.2 with ⟨he, h1⟩ | ⟨g5, _, _, he, _⟩
      · omega
      · injection he with e1 e2 e3; exact ⟨g5, e1⟩
    have hBg : B ≤ g := (HO.out.lt g rfl).1
    have hgw : g < w.heap.size := (HO.out.lt g rfl).2
    go_loopw [5, 6] (fun x y wr => ∃ (i j : Nat) (m : List (Int × Int)), i < j ∧ j ≤ n ∧ x = .int .i64 (i : Nat) ∧ y = .int .i64 (j : Nat) ∧ m.length = n ∧ wr.ownsRow B 59 2 (.slice (some ⟨g, 0, none⟩) n c) n (gv m) ∧ m.take i = cleanG (l.take j) ∧ m.drop j = l.drop j ∧ RStep B (some ⟨g, 0, none⟩) (some ⟨g, 0, none⟩) w wr) (fun _ y _ => n - (Go.RowKit.intOf y).toNat)
    case atStart => exact ⟨k, k + 1, l, by omega, hkn, rfl, by go_num, HL.out, owns_below HO.out HB1.out (Nat.le_refl _), HC1.out.symm, rfl, RStep.of_below HB1.out hB⟩
    case round =>
      obtain ⟨i, j, m, hij, hj, rfl, rfl, hml, ho, hmt, hmd, hs⟩ := hrel
      have HM := Lib.hid ho
      have HT := Lib.hid hmt
      have HD := Lib.hid hmd
      have HS := Lib.hid hs
      have HML := Lib.hid hml
      have hwr : w.heap.size ≤ wr.heap.size := hs.below.size
      by_cases hlt : j < n
      · obtain ⟨g', p, hg', _, hgr, hp, hc1, hc2, hf1, hf2, _⟩ := grow_at ho hml hlt
        cases hg'
        have hlj : l[j]? = some p := by
          have e1 : (m.drop j)[0]? = some p := by rw [List.getElem?_drop]; exact hp
          rw [hmd, List.getElem?_drop] at e1
          exact e1
        have HSN := Lib.hid (cleanG_snoc hlj)
        obtain ⟨p1, p2⟩ := p
        simp only at hc1 hc2
        clear hp ho hmt hmd hs hml hlj
        by_cases h6 : p1 = 65535
        · rw [if_pos (show ((p1, p2) : Int × Int).1 = 65535 from h6), List.append_nil] at HSN
          subst h6
          have e6 : ((65535 : Int) == 65535) = true := by decide
          go_wp2_with (go_at_call 75; (with_reducible refine (HC.out 65535 p2 _).mono ?_); rintro e w3 ⟨rfl, hb3⟩; rw [e6]; have HB3 := Lib.hid ((balloc (brefl wr) _).trans (hb3.mono (by simp))); clear hb3)
          go_roundw
          case rel => exact ⟨i, j + 1, m, by omega, hlt, rfl, by go_num, HML.out, owns_below HM.out HB3.out (Nat.le_refl _), by rw [HSN.out]; exact HT.out, by rw [← List.drop_drop, HD.out, List.drop_drop], HS.out.then_below HB3.out (by omega)⟩
          case measure => simp [Go.RowKit.intOf]; omega
        · rw [if_neg (show ¬ ((p1, p2) : Int × Int).1 = 65535 from h6)] at HSN
          have e6 : (p1 == 65535) = false := by simpa using h6
          have hin : i < n := by omega
          have hgnw : g < wr.heap.size := hgr
          obtain ⟨_, p', hg', _, _, _, hd1, hd2, hf3, hf4, _⟩ := grow_at HM.out HML.out hin
          cases hg'
          have HST := Lib.hid (fun W (hW : Below wr.heap.size wr W) => show ((W.setCell ⟨g, i * 2, none⟩ (.int .i64 p1)).setCell ⟨g, i * 2 + 1, none⟩ (.int .i64 p2)).ownsRow B 59 2 (.slice (some ⟨g, 0, none⟩) n c) n (gv (m.set i (p1, p2))) from by
            obtain ⟨_, _, _, he, _, _, _, _, _, hx⟩ := row_at (owns_below HM.out hW (Nat.le_refl _)) (i * 2) (by omega)
            cases he
            obtain ⟨_, _, _, he, _, _, _, _, _, hy⟩ := row_at (hx (.int .i64 p1)) (i * 2 + 1) (by omega)
            cases he
            have := hy (.int .i64 p2)
            rwa [gv_set] at this)
          have HSS := Lib.hid (fun W (hW : Below wr.heap.size wr W) => ((HS.out.then_below hW (by omega)).set (o := i * 2) hBg (.int .i64 p1)).set (o := i * 2 + 1) hBg (.int .i64 p2))
          go_wp2_with (go_at_call 75; (with_reducible refine (HC.out p1 p2 _).mono ?_); rintro e w3 ⟨rfl, hb3⟩; rw [e6]; have h3c := bc hb3; have h3f := bf hb3; have HB3 := Lib.hid ((balloc (brefl wr) (.cells #[.int .i64 p1, .int .i64 p2] 59)).trans (hb3.mono (by simp))); clear hb3; simp only [World.size_alloc] at h3c h3f)
          go_roundw
          case rel =>
            refine ⟨i + 1, j + 1, m.set i (p1, p2), by omega, hlt, by go_num, by go_num, by rw [List.length_set]; exact HML.out, HST.out _ HB3.out, ?_, ?_, HSS.out _ HB3.out⟩
            · rw [set_take _ _ _ (by rw [HML.out]; exact hin), HT.out, HSN.out]
            · rw [List.drop_set_of_lt (by omega), ← List.drop_drop, HD.out, List.drop_drop]
          case measure => simp [Go.RowKit.intOf]; omega
      · obtain rfl : n = j := by omega
        rw [List.take_of_length_le (Nat.le_of_eq HL.out)] at hmt
        have hkl2 : (cleanG l).length = i := by rw [← hmt, List.length_take, hml]; omega
        rcases ho.2 with ⟨he, _⟩ | ⟨g', cap, cur, he, _, hh, _, _, hcs, hct⟩
        · cases he
        injection he with e1 _ e3
        cases e1
        subst e3
        have HH := Lib.hid hh
        have HCS := Lib.hid hcs
        have HCT := Lib.hid hct
        have HTT := Lib.hid hmt
        have HK := Lib.hid hkl2
        have hci : ¬ c = i := by omega
        obtain ⟨W2, hclr, hW2, ho2, hb2⟩ := run_clearG wr 0 g (i * 2) (n - i) (c - i) cur 59 hh (by omega) (by rw [hcs]; omega)
        have HW2 := Lib.hid hW2
        have HO2 := Lib.hid ho2
        have HB2 := Lib.hid hb2
        clear hh hcs hct hmt hkl2 ho hmd hs hml HT HD hW2 ho2 hb2
        go_wp2_with fail
        go_ret
        rw [HK.out]
        have hzl : (gv (List.replicate (n - i) (0, 0))).length = (n - i) * 2 := by rw [gv_length, List.length_replicate]
        refine ⟨c, rfl, ⟨by rw [gv_length, HK.out], .inr ⟨g, c, _, rfl, hBg, HW2.out, by omega, by unfold maxLen; omega, ?_, ?_⟩⟩, ⟨HS.out.below.trans (HB2.out.mono hBg), fun k hk ha => ?_, fun _ h => .inl h⟩⟩
        · rw [List.size_toArray, size_splice _ _ _ (by rw [hzl, Array.length_toList, HCS.out]; omega), Array.length_toList, HCS.out]
        · rw [← HTT.out, gv_take, ← HCT.out]
          have e1 : ∀ (L Z : List Value) (o : Nat), o ≤ L.length → (splice L o Z).take o = L.take o := fun L Z o h => by
            rw [splice, List.take_append_of_le_length (by rw [List.length_take]; omega), List.take_take, Nat.min_self]
          rw [List.toList_toArray, e1 _ _ _ (by rw [Array.length_toList, HCS.out]; omega), List.take_take, Nat.min_eq_left (by omega)]
        · have hk' : k ≠ g := by rintro rfl; exact ha rfl
          rw [HO2.out k hk']; exact HS.out.keep k hk ha
set_option maxHeartbeats 800000 in
theorem gclean_any (B g : Nat) (a : Option Addr) (c : Nat) (l : List (Int × Int)) (w : World) (h : GIs B g a c l w) (hB : B ≤ g) (hBw : B ≤ w.heap.size) (hn : l.length ≤ 1000000) :
    Calls Try.prog 39 #[.pointer (some ⟨g, 0, none⟩)] w fun e w' => ∃ c', e = .returned (.tuple #[]) ∧ GIs B g a c' (cleanG l) w' ∧ GStep B g a a w w' := by
  have HR := Lib.hid (sdel_any B a l.length c l w h.row rfl hn hBw)
  have HG := Lib.hid h
  have q0 := cell_of_heap h.hd 0
  simp only [List.getElem?_toArray, List.getElem?_cons_zero] at q0
  have hgw := (Array.getElem?_eq_some_iff.1 h.hd).1
  have HNE := Lib.hid h.ne
  clear h
  obtain ⟨n, hnl⟩ : ∃ n, n = l.length := ⟨_, rfl⟩
  rw [← hnl] at HR q0 hn
  have HHD := Lib.hid (show w.heap[g]? = some (.cells #[.slice a n c] 99 (0, 0)) by rw [hnl]; exact HG.out.hd)
  clear hnl
  go_enter Try.func39, Try.ntmps39
  go_wp2_with (go_at_call 74; (with_reducible refine HR.out.mono ?_); rintro e w1 ⟨c1, rfl, ho, hs⟩; have hg1 := (hs.keep g hgw HNE.out).trans HHD.out; have HO := Lib.hid ho; have HS := Lib.hid hs; have q1 := cell_of_heap hg1 0; have f1 := froz_of_heap hg1 0; have HH1 := Lib.hid hg1; simp only [List.getElem?_toArray, List.getElem?_cons_zero] at q1; clear ho hs hg1)
  go_end0
  refine ⟨c1, rfl, ⟨?_, ?_⟩, GStep.of_row HS.out hB _⟩
  · rw [set_heap_at _ HH1.out]; rfl
  · exact set_owns _ HO.out (own_neE HO.out HH1.out (by decide))
end Go.Proofs.Ytlgkikmmpnnnfaa
end
section

/- What an argument of glyphs, and one of numbers, is. No condition. -/
namespace Go.Proofs.Ytlgkikmmpnnnfaa
open Go.ChangeShapes Go.WideShapes Go.ChangeAt Go.RowKit

section
variable {H : Type} {enc : TypeId × Value → H}
end
end Go.Proofs.Ytlgkikmmpnnnfaa
end
