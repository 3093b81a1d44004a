
/- Contracts of package line's small functions: Clone at glyphs, New, Of, Len, Glyphs, has, At, Set. Conditions: a line in memory; sizes. -/
import Derived.Test.YtlkbadomklefmaaGBase
namespace Go.Proofs.Ytlkbadomklefmaa
open Go.RowKit Go.Lib

theorem GIs.glyph {B g : Nat} {a : Option Addr} {c : Nat} {l : List (Int × Int)} {w : World} (h : GIs B g a c l w) {j : Nat} {p : Int × Int} (hj : l[j]? = some p) :
    ∃ gb, a = some ⟨gb, 0, none⟩ ∧ B ≤ gb ∧ gb < w.heap.size ∧ gb ≠ g ∧ w.cell? ⟨gb, j * 2, none⟩ = some (.int .i64 p.1) ∧ w.cell? ⟨gb, j * 2 + 1, none⟩ = some (.int .i64 p.2) ∧ w.frozen? ⟨gb, j * 2, none⟩ = false ∧ w.frozen? ⟨gb, j * 2 + 1, none⟩ = false ∧
      (∀ x, GIs B g a c (l.set j (x, p.2)) (w.setCell ⟨gb, j * 2, none⟩ (.int .i64 x))) ∧ (∀ x, GIs B g a c (l.set j (p.1, x)) (w.setCell ⟨gb, j * 2 + 1, none⟩ (.int .i64 x))) := by
  have hlt : j < l.length := (List.getElem?_eq_some_iff.1 hj).1
  obtain ⟨gb, cs, u, rfl, hB, hh, hc, _, hf, hs⟩ := row_at h.row (j * 2) (by omega)
  obtain ⟨gb', cs', u', ha', _, hh', hc', _, hf', hs'⟩ := row_at h.row (j * 2 + 1) (by omega)
  cases ha'
  have hne : gb ≠ g := by
    rintro rfl
    rw [h.hd] at hh
    injection hh with hh
    injection hh with _ h2 _
    exact absurd h2 (by decide)
  have e1 := h.row.cellAt (j * 2) (by omega)
  have e2 := h.row.cellAt (j * 2 + 1) (by omega)
  rw [gv_fst hj] at e1
  rw [gv_snd hj] at e2
  refine ⟨gb, rfl, hB, (Array.getElem?_eq_some_iff.1 hh).1, hne, e1, e2, hf, hf', fun x => ?_, fun x => ?_⟩
  · refine ⟨by rw [set_heap_other _ (Ne.symm hne), List.length_set]; exact h.hd, ?_⟩
    have := hs (.int .i64 x)
    rw [gv_set1 l j x p hj] at this
    rwa [List.length_set]
  · refine ⟨by rw [set_heap_other _ (Ne.symm hne), List.length_set]; exact h.hd, ?_⟩
    have := hs' (.int .i64 x)
    rw [gv_set2 l j x p hj] at this
    rwa [List.length_set]
theorem GStep.set {B g gb o : Nat} {a : Option Addr} {w : World} (v : Value) (ha : a = some ⟨gb, 0, none⟩) (hB : B ≤ gb) : GStep B g a a w (w.setCell ⟨gb, o, none⟩ v) :=
  ⟨(Below.refl _ _).setCell (p := ⟨gb, o, none⟩) hB v, fun k _ _ hk => Below.heap_setCell _ _ _ _ (by rintro rfl; exact hk (by rw [ha]; rfl)), fun _ h => .inl h⟩

theorem eqg_nil (w : World) (n c : Nat) : (binOp .eql 87 (.slice none n c) (.slice none 0 0)).run Try.prog w = .ok (.bool true) w := by kernel_rfl
theorem eqg_some (w : World) (p : Addr) (n c : Nat) : (binOp .eql 87 (.slice (some p) n c) (.slice none 0 0)).run Try.prog w = .ok (.bool false) w := by kernel_rfl
/-- A slice of glyphs of the call's own. -/
def GRow (B : Nat) (l : List (Int × Int)) (v : Value) (w : World) : Prop := ∃ a c, v = .slice a l.length c ∧ w.ownsRow B 89 2 (.slice a l.length c) l.length (gv l)
theorem GRow.below {B : Nat} {l : List (Int × Int)} {v : Value} {w w' : World} (h : GRow B l v w) (hb : Below w.heap.size w w') : GRow B l v w' := by
  obtain ⟨a, c, h1, h2⟩ := h
  exact ⟨a, c, h1, owns_below h2 hb (Nat.le_refl _)⟩
theorem GRow.own {B n : Nat} {l : List (Int × Int)} {a : Option Addr} {c : Nat} {w : World} (h : GRow B l (.slice a n c) w) (hn : l.length = n) : w.ownsRow B 89 2 (.slice a n c) n (gv l) := by
  obtain ⟨a', c', he, ho⟩ := h
  injection he with e1 e2 e3
  subst e1 e3 hn
  exact ho
theorem GRow.lit (w : World) (l : List (Int × Int)) (B : Nat) (hB : B ≤ w.heap.size) (hl : l.length ≤ maxLen) (cs : Array Value) (hc : cs.toList = gv l) : GRow B l (.slice (some ⟨w.heap.size, 0, none⟩) l.length l.length) (w.alloc (.cells cs 89)) := by
  refine ⟨_, _, rfl, ?_⟩
  have := World.ownsRow_lit (e := 89) (size := 2) w cs l.length hB hl (by rw [← Array.length_toList, hc, gv_length])
  rwa [hc] at this
theorem wpAppG {w : World} {ops : Array Oper} {rest : List Oper} {o : Oper} {a : Act} {Q : Exit → Act → World → Prop} (hgd : o.guard = none) (s x : Operand)
    (ho : o.op = .call { callee := .builtin .append, args := #[s, x], argTypes := #[87, 87] }) (B : Nat) (v : Value) (l m : List (Int × Int)) (hs : a.eval s = v) (hown : GRow B l v w)
    (A : Option Addr) (k c : Nat) (hx : a.eval x = .slice A k c) (hk : m.length = k) (hh : Has w A (gv m)) (hA : A = none → c = 0) (hsz : l.length + k ≤ 100000000) (hB : B ≤ w.heap.size)
    (h' : ∀ a' c' w', GRow B (l ++ m) (.slice a' (l.length + k) c') w' → Below B w w' → w.grownBy w' v.ownBlock → wpList Try.prog ops Q rest (a.put o.dst (.slice a' (l.length + k) c')) w') : wpList Try.prog ops Q (o :: rest) a w := by
  obtain ⟨a0, c0, rfl, ho0⟩ := hown
  refine wpApp hgd s x 87 ho B 89 (.agg #[.int .i64 0, .int .i64 0]) 2 16 Try.underlying87 info_glyph rfl (by decide) _ l.length (gv l) hs ho0 A k c (gv m) hx (by rw [gv_length, hk]) hh hA (gv_one m) (by unfold maxLen; omega) (by omega) hB ?_
  intro a1 c1 w1 hown k1 k2 k3 hb1 hg1
  refine h' a1 c1 w1 ⟨a1, c1, by rw [List.length_append, hk], ?_⟩ hb1 hg1
  rw [gv_append, List.length_append, hk]
  exact hown

theorem wpAppGn {w : World} {ops : Array Oper} {rest : List Oper} {o : Oper} {a : Act} {Q : Exit → Act → World → Prop} (hgd : o.guard = none) (s x : Operand)
    (ho : o.op = .call { callee := .builtin .append, args := #[s, x], argTypes := #[87, 87] }) (B : Nat) (v : Value) (l m : List (Int × Int)) (n : Nat) (hln : l.length = n) (hs : a.eval s = v) (hown : GRow B l v w)
    (A : Option Addr) (k c : Nat) (hx : a.eval x = .slice A k c) (hk : m.length = k) (hh : Has w A (gv m)) (hA : A = none → c = 0) (hsz : n + k ≤ 100000000) (hB : B ≤ w.heap.size)
    (h' : ∀ a' c' w', GRow B (l ++ m) (.slice a' (n + k) c') w' → Below B w w' → wpList Try.prog ops Q rest (a.put o.dst (.slice a' (n + k) c')) w') : wpList Try.prog ops Q (o :: rest) a w := by
  subst hln
  exact wpAppG hgd s x ho B v l m hs hown A k c hx hk hh hA hsz hB fun a' c' w' h1 h2 _ => h' a' c' w' h1 h2
set_option maxHeartbeats 800000 in
theorem glen_any (B g : Nat) (a : Option Addr) (c : Nat) (l : List (Int × Int)) (w : World) (h : GIs B g a c l w) :
    Calls Try.prog 37 #[.pointer (some ⟨g, 0, none⟩)] w fun e w' => e = .returned (.int .i64 (l.length : Nat)) ∧ w = w' := by
  have q0 := cell_of_heap h.hd 0
  simp only [List.getElem?_toArray, List.getElem?_cons_zero] at q0
  clear h
  generalize l.length = n at *
  go_enter Try.func37, Try.ntmps37
  go_wp2_with fail
  go_ret
  exact ⟨rfl, rfl⟩
def inG (l : List (Int × Int)) (z : Int) : Bool := decide (0 ≤ z) && decide (z < (l.length : Int))
set_option maxHeartbeats 800000 in
theorem ghas_any (B g : Nat) (a : Option Addr) (c : Nat) (l : List (Int × Int)) (w : World) (h : GIs B g a c l w) (z : Int) :
    Calls Try.prog 67 #[.pointer (some ⟨g, 0, none⟩), .int .i64 z] w fun e w' => e = .returned (.bool (inG l z)) ∧ w = w' := by
  have q0 := cell_of_heap h.hd 0
  simp only [List.getElem?_toArray, List.getElem?_cons_zero] at q0
  unfold inG
  clear h
  generalize l.length = n at *
  by_cases h0 : 0 ≤ z
  · have d0 : decide (0 ≤ z) = true := by simpa using h0
    rw [d0, Bool.true_and]
    clear h0
    go_enter Try.func67, Try.ntmps67
    go_wp2_with fail
    go_ret
    exact ⟨rfl, rfl⟩
  · have d0 : decide (0 ≤ z) = false := by simpa using h0
    rw [d0, Bool.false_and]
    clear h0
    go_enter Try.func67, Try.ntmps67
    go_wp2_with fail
    go_ret
    exact ⟨rfl, rfl⟩
theorem inG_yes {l : List (Int × Int)} {z : Int} (h : inG l z = true) : ∃ (j : Nat) (p : Int × Int), z = (j : Nat) ∧ l[j]? = some p := by
  simp only [inG, Bool.and_eq_true, decide_eq_true_eq] at h
  exact ⟨z.toNat, _, by omega, List.getElem?_eq_getElem (by omega)⟩
theorem inG_of {l : List (Int × Int)} {j : Nat} {p : Int × Int} (h : l[j]? = some p) : inG l (j : Nat) = true := by
  have := (List.getElem?_eq_some_iff.1 h).1
  simp only [inG, Bool.and_eq_true, decide_eq_true_eq]
  omega
def atG (l : List (Int × Int)) (z : Int) : Int × Int := if inG l z then l.getD z.toNat (0, 0) else (0, 0)
theorem atG_of {l : List (Int × Int)} {j : Nat} {p : Int × Int} (h : l[j]? = some p) : atG l (j : Nat) = p := by
  rw [atG, if_pos (inG_of h), Int.toNat_natCast, List.getD_eq_getElem?_getD, h]
  rfl
def glyphA (p : Int × Int) : Value := .agg #[.int .i64 p.1, .int .i64 p.2]
set_option maxHeartbeats 800000 in
theorem gat_any (B g : Nat) (a : Option Addr) (c : Nat) (l : List (Int × Int)) (w : World) (h : GIs B g a c l w) (z : Int) :
    Calls Try.prog 52 #[.pointer (some ⟨g, 0, none⟩), .int .i64 z] w fun e w' => e = .returned (.tuple #[glyphA (atG l z), .bool (inG l z)]) ∧ Below w.heap.size w w' := by
  have hAC := allocC
  have hAF := allocF
  cases hin : inG l z with
  | false =>
    have hat : atG l z = (0, 0) := by rw [atG, if_neg (by rw [hin]; decide)]
    have HA := Lib.hid (fun W (hW : Below w.heap.size w W) => ghas_any B g a c l W (h.below hW) z)
    rw [hin] at HA
    rw [hat]
    clear hat h hin
    go_enter Try.func52, Try.ntmps52
    go_wp2_with (first | (go_at_call 67; (with_reducible refine (HA.out _ (by exact blw)).mono ?_); rintro e w_ ⟨rfl, rfl⟩))
    refine bodyPost_ret (v := .tuple #[.agg #[.int .i64 0, .int .i64 0], .bool false]) (by simp [results, Try.results52, go_sem, hAC, hAF]) rfl ?_
    exact ⟨rfl, blw⟩
  | true =>
    obtain ⟨j, p, rfl, hj⟩ := inG_yes hin
    rw [atG_of hj]
    have HA := Lib.hid (fun W (hW : Below w.heap.size w W) => ghas_any B g a c l W (h.below hW) (j : Nat))
    rw [hin] at HA
    obtain ⟨gb, rfl, _, hgb, hne, c1, c2, f1, f2, _⟩ := h.glyph hj
    have q0 := cell_of_heap h.hd 0
    simp only [List.getElem?_toArray, List.getElem?_cons_zero] at q0
    have hlt := (List.getElem?_eq_some_iff.1 hj).1
    have hg := (Array.getElem?_eq_some_iff.1 h.hd).1
    obtain ⟨p1, p2⟩ := p
    simp only [glyphA] at *
    clear h hin hj
    generalize l.length = n at *
    go_enter Try.func52, Try.ntmps52
    go_wp2_with (first | (go_at_call 67; (with_reducible refine (HA.out _ (by exact blw)).mono ?_); rintro e w_ ⟨rfl, rfl⟩))
    refine bodyPost_ret (v := .tuple #[.agg #[.int .i64 p1, .int .i64 p2], .bool true]) (by simp [results, Try.results52, go_sem, hAC, hAF]) rfl ?_
    exact ⟨rfl, blw⟩
theorem grow_at {w : World} {B n c : Nat} {a : Option Addr} {l : List (Int × Int)} (h : w.ownsRow B 89 2 (.slice a n c) n (gv l)) (hl : l.length = n) {j : Nat} (hj : j < n) :
    ∃ g p, a = some ⟨g, 0, none⟩ ∧ B ≤ g ∧ g < w.heap.size ∧ l[j]? = some p ∧ w.cell? ⟨g, j * 2, none⟩ = some (.int .i64 p.1) ∧ w.cell? ⟨g, j * 2 + 1, none⟩ = some (.int .i64 p.2) ∧ w.frozen? ⟨g, j * 2, none⟩ = false ∧ w.frozen? ⟨g, j * 2 + 1, none⟩ = false ∧
      (∀ x, (w.setCell ⟨g, j * 2, none⟩ (.int .i64 x)).ownsRow B 89 2 (.slice a n c) n (gv (l.set j (x, p.2)))) ∧ (∀ x, (w.setCell ⟨g, j * 2 + 1, none⟩ (.int .i64 x)).ownsRow B 89 2 (.slice a n c) n (gv (l.set j (p.1, x)))) := by
  obtain ⟨p, hp⟩ : ∃ p, l[j]? = some p := ⟨_, List.getElem?_eq_getElem (by omega)⟩
  obtain ⟨g, cs, u, rfl, hB, hh, hc, _, hf, hs⟩ := row_at h (j * 2) (by omega)
  obtain ⟨g', cs', u', ha', _, hh', hc', _, hf', hs'⟩ := row_at h (j * 2 + 1) (by omega)
  cases ha'
  have e1 := h.cellAt (j * 2) (by omega)
  have e2 := h.cellAt (j * 2 + 1) (by omega)
  rw [gv_fst hp] at e1
  rw [gv_snd hp] at e2
  refine ⟨g, p, rfl, hB, (Array.getElem?_eq_some_iff.1 hh).1, hp, e1, e2, hf, hf', fun x => ?_, fun x => ?_⟩
  · have := hs (.int .i64 x)
    rwa [gv_set1 l j x p hp] at this
  · have := hs' (.int .i64 x)
    rwa [gv_set2 l j x p hp] at this
theorem GIs.other {B g : Nat} {a : Option Addr} {c : Nat} {l : List (Int × Int)} {w : World} (h : GIs B g a c l w) {k o : Nat} (hk : k ≠ g) (hka : some k ≠ a.map (·.block)) (v : Value) : GIs B g a c l (w.setCell ⟨k, o, none⟩ v) :=
  ⟨by rw [set_heap_other _ (Ne.symm hk)]; exact h.hd, set_owns _ h.row (by cases a with | none => exact fun e => by cases e | some p => exact hka)⟩
theorem GIs.ne {B g : Nat} {a : Option Addr} {c : Nat} {l : List (Int × Int)} {w : World} (h : GIs B g a c l w) : some g ≠ a.map (·.block) := fun e => by
  cases a with
  | none => cases e
  | some p => exact own_neE h.row h.hd (by decide) (by have e : g = p.block := (by simpa using e); rw [e]; rfl)
end Go.Proofs.Ytlkbadomklefmaa
