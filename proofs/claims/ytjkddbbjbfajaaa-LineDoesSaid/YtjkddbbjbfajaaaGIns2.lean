
/- slices.Insert at glyphs, whatever place; (*line.Line).Insert. Conditions: rows of their own, apart; sizes. -/
import Derived.Test.YtjkddbbjbfajaaaGIns
namespace Go.Proofs.Ytjkddbbjbfajaaa
open Go.RowKit Go.Lib

set_option maxHeartbeats 1600000 in
set_option maxRecDepth 100000 in
theorem sins_zero (B : Nat) (a : Option Addr) (n c i : Nat) (vb cv : Nat) (l : List (Int × Int)) (w : World) (ho : w.ownsRow B 38 2 (.slice a n c) n (gv l)) (hi : i ≤ n) (hn : n ≤ 1000000) :
    Calls Try.prog 35 #[.slice a n c, .int .i64 (i : Nat), .slice (some ⟨vb, 0, none⟩) 0 cv] w (SInsIs B a n 0 l w) := by
  obtain ⟨_, _, he, k1, k2, _⟩ := owns_slice ho
  cases he
  have HO := Lib.hid ho
  unfold maxLen at k2
  clear ho
  unfold SInsIs
  by_cases hci : c = i
  · subst hci
    obtain rfl : n = c := by omega
    go_enter Try.func35, Try.ntmps35
    go_wp2_with fail
    go_ret
    exact ⟨a, n, rfl, HO.out, RStep.refl _ _ _⟩
  · have hi' : (i : Int) ≤ (n : Int) := by omega
    go_enter Try.func35, Try.ntmps35
    go_wp2_with fail
    go_ret
    exact ⟨a, c, rfl, HO.out, RStep.refl _ _ _⟩
set_option maxHeartbeats 1600000 in
set_option maxRecDepth 100000 in
theorem sins_end (B : Nat) (a : Option Addr) (n c : Nat) (vb m cv : Nat) (l vs : List (Int × Int)) (w : World) (ho : w.ownsRow B 38 2 (.slice a n c) n (gv l)) (hv : Has w (some ⟨vb, 0, none⟩) (gv vs)) (hvl : vs.length = m) (hm : 0 < m) (hn : n ≤ 1000000) (hm6 : m ≤ 1000000) (hB : B ≤ w.heap.size) :
    Calls Try.prog 35 #[.slice a n c, .int .i64 (n : Nat), .slice (some ⟨vb, 0, none⟩) m cv] w (SInsIs B a n m (l ++ vs) w) := by
  obtain ⟨_, _, he, k1, k2, _⟩ := owns_slice ho
  cases he
  have HO := Lib.hid ho
  have HV := Lib.hid hv
  have HVL := Lib.hid hvl
  have hm0 : ¬ (m : Int) = 0 := by omega
  unfold maxLen at k2
  clear ho hv hvl
  unfold SInsIs
  by_cases hci : c = n
  · subst hci
    go_enter Try.func35, Try.ntmps35
    go_wp2_with (at_builtin; refine wpAppF rfl _ _ 28 rfl B 38 (.agg #[.int .i64 0, .int .i64 0]) 2 16 Try.underlying28 info_glyph rfl (by decide) a c c (gv l) rfl HO.out ⟨vb, 0, none⟩ m cv hm (gv vs) rfl (by rw [gv_length, HVL.out]) HV.out (gv_one vs) (by unfold maxLen; omega) (by omega) hB ?_; intro a2 c2 w2 h1 h2 h3 h4 h5 h6 h7; have HO2 := Lib.hid h1; have HB2 := Lib.hid h5; have HG2 := Lib.hid h6; have HN2 := Lib.hid h7; clear h1 h4 h5 h6 h7)
    go_ret
    exact ⟨a2, c2, rfl, by rw [gv_append]; exact HO2.out, HB2.out, fun k hk hne => HG2.out.block k hk (by cases a with | none => exact fun e => by cases e | some p => exact hne), fun k hk => by
      rcases HN2.out with e | e
      · rw [e] at hk; exact .inl hk
      · cases a2 with
        | none => cases hk
        | some p => cases hk; exact .inr (e p rfl)⟩
  · have hlt : n < c := by omega
    go_enter Try.func35, Try.ntmps35
    go_wp2_with (at_builtin; refine wpAppF rfl _ _ 28 rfl B 38 (.agg #[.int .i64 0, .int .i64 0]) 2 16 Try.underlying28 info_glyph rfl (by decide) a n c (gv l) rfl HO.out ⟨vb, 0, none⟩ m cv hm (gv vs) rfl (by rw [gv_length, HVL.out]) HV.out (gv_one vs) (by unfold maxLen; omega) (by omega) hB ?_; intro a2 c2 w2 h1 h2 h3 h4 h5 h6 h7; have HO2 := Lib.hid h1; have HB2 := Lib.hid h5; have HG2 := Lib.hid h6; have HN2 := Lib.hid h7; clear h1 h4 h5 h6 h7)
    go_ret
    exact ⟨a2, c2, rfl, by rw [gv_append]; exact HO2.out, HB2.out, fun k hk hne => HG2.out.block k hk (by cases a with | none => exact fun e => by cases e | some p => exact hne), fun k hk => by
      rcases HN2.out with e | e
      · rw [e] at hk; exact .inl hk
      · cases a2 with
        | none => cases hk
        | some p => cases hk; exact .inr (e p rfl)⟩
theorem sins_any (B : Nat) (a : Option Addr) (n c i : Nat) (vb m cv : Nat) (l vs : List (Int × Int)) (w : World) (ho : w.ownsRow B 38 2 (.slice a n c) n (gv l)) (hl : l.length = n)
    (hv : w.ownsRow 0 38 2 (.slice (some ⟨vb, 0, none⟩) m cv) m (gv vs)) (hvl : vs.length = m) (hne : ∀ p, a = some p → vb ≠ p.block) (hi : i ≤ n) (hn : n ≤ 1000000) (hm6 : m ≤ 1000000) (hB : B ≤ w.heap.size) :
    Calls Try.prog 35 #[.slice a n c, .int .i64 (i : Nat), .slice (some ⟨vb, 0, none⟩) m cv] w (SInsIs B a n m (l.take i ++ (vs ++ l.drop i)) w) := by
  rcases Nat.eq_zero_or_pos m with rfl | hm
  · obtain rfl : vs = [] := List.eq_nil_of_length_eq_zero hvl
    rw [List.nil_append, List.take_append_drop]
    exact sins_zero B a n c i vb cv l w ho hi hn
  · by_cases hin : i = n
    · subst hin
      rw [List.take_of_length_le (Nat.le_of_eq hl), List.drop_eq_nil_of_le (Nat.le_of_eq hl), List.append_nil]
      exact sins_end B a i c vb m cv l vs w ho (has_of_owns hv) hvl hm hn hm6 hB
    · rcases ho.2 with ⟨he, h0⟩ | ⟨b, cap, cur, he, hBb, hh, hnc, hcm, hcs, hct⟩
      · omega
      · injection he with e1 _ e3
        subst e1 e3
        rcases hv.2 with ⟨he, _⟩ | ⟨v', cap', cur', he, _, hvh, _⟩
        · cases he
        · injection he with e1 _ e3
          cases e1
          subst e3
          by_cases hroom : n + m ≤ c
          · exact sins_shift B b n c i vb m cv cur cur' l vs w hh hvh (hne _ rfl) hl hvl hcs hct (has_of_owns hv) (by omega) hm hroom hcm hn hm6 hBb
          · exact sins_grow B b n c i vb m cv cur cur' l vs w hh hl hvl hcs hct (has_of_owns hv) (Array.getElem?_eq_some_iff.1 hvh).1 (by omega) hm hnc (by omega) hn hm6 hB

def okI (l : List (Int × Int)) (z : Int) : Bool := decide (0 ≤ z) && decide (z ≤ (l.length : Int))
/-- The cluster of what is inserted at a place. -/
def insC (l : List (Int × Int)) (i : Nat) : Int := (l.getD (if i < l.length then i else l.length - 1) (0, 0)).2
def insG (l : List (Int × Int)) (z : Int) (ids : List Int) : List (Int × Int) := if okI l z then l.take z.toNat ++ ((ids.map fun x => (x, insC l z.toNat)) ++ l.drop z.toNat) else l
theorem insG_length (l : List (Int × Int)) (z : Int) (ids : List Int) : (insG l z ids).length ≤ l.length + ids.length := by
  unfold insG
  split
  · simp only [List.length_append, List.length_take, List.length_map, List.length_drop]; omega
  · omega
theorem insC_at (l : List (Int × Int)) (i : Nat) (hi : i ≤ l.length) : insC l i = (atG l (min (i : Int) ((l.length : Int) - 1))).2 := by
  unfold insC atG inG
  by_cases h : i < l.length
  · rw [if_pos h, if_pos (by simp; omega), show (min (i : Int) ((l.length : Int) - 1)).toNat = i by omega]
  · rw [if_neg h]
    rcases Nat.eq_zero_or_pos l.length with h0 | h0
    · rw [if_neg (by simp; omega), List.getD_eq_getElem?_getD, List.getElem?_eq_none (by omega)]
      rfl
    · rw [if_pos (by simp; omega), show (min (i : Int) ((l.length : Int) - 1)).toNat = l.length - 1 by omega]
theorem GStep.of_row {B g : Nat} {a a' : Option Addr} {w w' : World} (h : RStep B a a' w w') (hB : B ≤ g) (v : Value) : GStep B g a a' w (w'.setCell ⟨g, 0, none⟩ v) :=
  ⟨h.below.setCell (p := ⟨g, 0, none⟩) hB v, fun k hk hg ha => by rw [set_heap_other _ hg]; exact h.keep k hk ha, h.new⟩
def partF (ids : List Int) (cl : Int) (k : Nat) : List (Int × Int) := ((ids.map fun x => (x, cl)).take k) ++ List.replicate (ids.length - k) (0, 0)
theorem partF_zero (ids : List Int) (cl : Int) : partF ids cl 0 = List.replicate ids.length (0, 0) := by simp [partF]
theorem partF_all (ids : List Int) (cl : Int) : partF ids cl ids.length = ids.map fun x => (x, cl) := by simp [partF, List.take_of_length_le]
theorem partF_set (ids : List Int) (cl : Int) (k : Nat) (z : Int) (h : ids[k]? = some z) : (partF ids cl k).set k (z, cl) = partF ids cl (k + 1) := by
  have hlt := (List.getElem?_eq_some_iff.1 h).1
  have hg : (ids.map fun x => (x, cl))[k]? = some (z, cl) := by rw [List.getElem?_map, h]; rfl
  rw [partF, partF, List.take_add_one, hg, List.set_append, if_neg (by rw [List.length_take, List.length_map]; omega)]
  rw [show ids.length - k = ids.length - (k + 1) + 1 by omega, List.replicate_succ]
  rw [List.length_take, List.length_map, Nat.min_eq_left (by omega), Nat.sub_self, List.set_cons_zero]
  simp
end Go.Proofs.Ytjkddbbjbfajaaa
