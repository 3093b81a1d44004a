/- Joined from: GBase GOps IV GNew GIns GIns2 GOrd GJoin GIns3 GFrame. -/
import Derived.Test.YthehcbbdkiomnaaJ01
import Derived.Test.YthehcbbdkiomnaaJ04
import Derived.Laws.CopyRow
import Derived.Laws.CopyOwn
import Derived.Lib.AppendZerosOnto
import Derived.Deep.AppendSrc
import Derived.Lib.Overlaps
import Derived.Lib.JoinLaws
import Derived.Laws.Externs
import Derived.ChangeSame
import Derived.Deep.Strs
section

/- Glyphs as cells; copy between rows of elements of more cells than one; a line in memory. Conditions: sizes, as the lemmas say. -/
namespace Go.Proofs.Ythehcbbdkiomnaa
open Go.RowKit

def gv (l : List (Int × Int)) : List Value := l.flatMap fun g => [.int .i64 g.1, .int .i64 g.2]
theorem gv_nil : gv [] = [] := rfl
theorem gv_cons (g : Int × Int) (l : List (Int × Int)) : gv (g :: l) = .int .i64 g.1 :: .int .i64 g.2 :: gv l := rfl
theorem gv_length : ∀ l, (gv l).length = l.length * 2
  | [] => rfl
  | g :: l => by rw [gv_cons, List.length_cons, List.length_cons, gv_length l, List.length_cons]; omega
theorem gv_append (a b : List (Int × Int)) : gv (a ++ b) = gv a ++ gv b := by simp [gv]
theorem gv_take : ∀ (l : List (Int × Int)) (k : Nat), gv (l.take k) = (gv l).take (k * 2)
  | [], k => by simp [gv_nil]
  | g :: l, 0 => by simp [gv_nil]
  | g :: l, k + 1 => by rw [List.take_succ_cons, gv_cons, gv_cons, gv_take l k, show (k + 1) * 2 = k * 2 + 1 + 1 by omega, List.take_succ_cons, List.take_succ_cons]
theorem gv_one (l : List (Int × Int)) : ∀ u ∈ gv l, u.oneCell' = true := by
  intro u hu
  simp only [gv, List.mem_flatMap, List.mem_cons, List.not_mem_nil, or_false] at hu
  obtain ⟨g, _, rfl | rfl⟩ := hu <;> rfl
theorem gv_fst : ∀ {l : List (Int × Int)} {j : Nat} {g : Int × Int}, l[j]? = some g → (gv l)[j * 2]? = some (.int .i64 g.1)
  | [], j, g, h => by simp at h
  | x :: l, 0, g, h => by simp at h; subst h; rfl
  | x :: l, j + 1, g, h => by
    rw [gv_cons, show (j + 1) * 2 = j * 2 + 1 + 1 by omega, List.getElem?_cons_succ, List.getElem?_cons_succ]
    exact gv_fst (by simpa using h)
theorem gv_snd : ∀ {l : List (Int × Int)} {j : Nat} {g : Int × Int}, l[j]? = some g → (gv l)[j * 2 + 1]? = some (.int .i64 g.2)
  | [], j, g, h => by simp at h
  | x :: l, 0, g, h => by simp at h; subst h; rfl
  | x :: l, j + 1, g, h => by
    rw [gv_cons, show (j + 1) * 2 + 1 = j * 2 + 1 + 1 + 1 by omega, List.getElem?_cons_succ, List.getElem?_cons_succ]
    exact gv_snd (by simpa using h)
theorem gv_set : ∀ (l : List (Int × Int)) (j : Nat) (x y : Int), ((gv l).set (j * 2) (.int .i64 x)).set (j * 2 + 1) (.int .i64 y) = gv (l.set j (x, y))
  | [], j, x, y => by simp [gv_nil]
  | g :: l, 0, x, y => rfl
  | g :: l, j + 1, x, y => by
    rw [gv_cons, show (j + 1) * 2 = j * 2 + 1 + 1 by omega, List.set_cons_succ, List.set_cons_succ, List.set_cons_succ, List.set_cons_succ, gv_set l j x y, List.set_cons_succ, gv_cons]
theorem gv_set1 : ∀ (l : List (Int × Int)) (j : Nat) (x : Int) (g : Int × Int), l[j]? = some g → (gv l).set (j * 2) (.int .i64 x) = gv (l.set j (x, g.2))
  | [], j, x, g, h => by simp at h
  | g :: l, 0, x, g', h => by simp at h; subst h; rfl
  | g :: l, j + 1, x, g', h => by
    rw [gv_cons, show (j + 1) * 2 = j * 2 + 1 + 1 by omega, List.set_cons_succ, List.set_cons_succ, gv_set1 l j x g' (by simpa using h), List.set_cons_succ, gv_cons]
theorem gv_set2 : ∀ (l : List (Int × Int)) (j : Nat) (x : Int) (g : Int × Int), l[j]? = some g → (gv l).set (j * 2 + 1) (.int .i64 x) = gv (l.set j (g.1, x))
  | [], j, x, g, h => by simp at h
  | g :: l, 0, x, g', h => by simp at h; subst h; rfl
  | g :: l, j + 1, x, g', h => by
    rw [gv_cons, show (j + 1) * 2 + 1 = j * 2 + 1 + 1 + 1 by omega, List.set_cons_succ, List.set_cons_succ, gv_set2 l j x g' (by simpa using h), List.set_cons_succ, gv_cons]
theorem info_glyph : (Try.prog.info? 100).map (fun i => (i.zero, i.size, i.bytes)) = some (some (.agg #[.int .i64 0, .int .i64 0]), 2, 16) := by kernel_rfl
theorem made_glyph (n : Nat) : (madeCells (Value.agg #[.int .i64 0, .int .i64 0]).cells (n * 2)).toList = gv (List.replicate n (0, 0)) := by
  apply List.ext_getElem
  · simp [madeCells, gv_length]
  · intro i h1 h2
    have hlt : i < n * 2 := by rw [gv_length, List.length_replicate] at h2; exact h2
    have hd : i / 2 < n := by omega
    have hg : (List.replicate n ((0 : Int), (0 : Int)))[i / 2]? = some (0, 0) := by rw [List.getElem?_replicate, if_pos hd]
    have hr : (gv (List.replicate n (0, 0)))[i]? = some (.int .i64 0) := by
      rcases Nat.mod_two_eq_zero_or_one i with h | h
      · have := gv_fst hg; rwa [show i / 2 * 2 = i by omega] at this
      · have := gv_snd hg; rwa [show i / 2 * 2 + 1 = i by omega] at this
    rw [List.getElem?_eq_getElem h2] at hr
    rw [Option.some.inj hr]
    simp only [madeCells, Array.getElem_toList, Array.getElem_ofFn, Value.cells]
    rcases Nat.mod_two_eq_zero_or_one i with h | h <;> simp [h]

/-- A line in memory: a block of its own, and glyphs of its own. -/
structure GIs (B g : Nat) (a : Option Addr) (c : Nat) (l : List (Int × Int)) (w : World) : Prop where
  hd : w.heap[g]? = some (.cells #[.slice a l.length c] 111 (0, 0))
  row : w.ownsRow B 100 2 (.slice a l.length c) l.length (gv l)
/-- What a change of a line may touch: its block, and its glyphs'. -/
structure GStep (B g : Nat) (a a' : Option Addr) (w w' : World) : Prop where
  below : Below B w w'
  keep : ∀ k, k < w.heap.size → k ≠ g → some k ≠ a.map (·.block) → w'.heap[k]? = w.heap[k]?
  new : ∀ k, a'.map (·.block) = some k → a.map (·.block) = some k ∨ w.heap.size ≤ k
theorem GIs.below {B g : Nat} {a : Option Addr} {c : Nat} {l : List (Int × Int)} {w w' : World} (h : GIs B g a c l w) (hb : Below w.heap.size w w') : GIs B g a c l w' :=
  ⟨(hb.block g (Array.getElem?_eq_some_iff.1 h.hd).1).trans h.hd, owns_below h.row hb (Nat.le_refl _)⟩
theorem GIs.mono {B B' g : Nat} {a : Option Addr} {c : Nat} {l : List (Int × Int)} {w : World} (h : GIs B g a c l w) (hb : B' ≤ B) : GIs B' g a c l w := ⟨h.hd, owns_mono h.row hb⟩
theorem GStep.of_below {B g : Nat} {a : Option Addr} {w w' : World} (h : Below w.heap.size w w') (hB : B ≤ w.heap.size) : GStep B g a a w w' := ⟨h.mono hB, fun k hk _ _ => h.block k hk, fun _ h => .inl h⟩
theorem GStep.trans {B g : Nat} {a b c : Option Addr} {w1 w2 w3 : World} (h : GStep B g a b w1 w2) (k : GStep B g b c w2 w3) : GStep B g a c w1 w3 :=
  ⟨h.below.trans k.below, fun x hx hg ha => by
    have hs := h.below.size
    rw [k.keep x (by omega) hg (fun e => by rcases h.new x e.symm with e | e; exact ha e.symm; omega), h.keep x hx hg ha],
   fun x hx => by
    have hs := h.below.size
    rcases k.new x hx with e | e
    · exact h.new x e
    · exact .inr (by omega)⟩
theorem GIs.has {B g : Nat} {a : Option Addr} {c : Nat} {l : List (Int × Int)} {w : World} (h : GIs B g a c l w) : Has w a (gv l) := has_of_owns h.row
/-- What is read elsewhere stays. -/
theorem GStep.has {B g : Nat} {a a' b : Option Addr} {w w' : World} (h : GStep B g a a' w w') {xs : List Value} (hx : Has w b xs) (hg : ∀ p, b = some p → p.block ≠ g) (ha : ∀ p q, b = some p → a = some q → p.block ≠ q.block) : Has w' b xs := by
  intro j u hu
  obtain ⟨p, hp, hc⟩ := hx j u hu
  refine ⟨p, hp, ?_⟩
  have hlt := cell_lt hc
  rw [add_block] at hlt
  rw [World.cell?_of_block (w := w) ?_]
  · exact hc
  · rw [add_block]
    exact h.keep _ hlt (hg p hp) (fun e => by
      cases a with
      | none => cases e
      | some q => injection e with e; exact ha p q hp rfl e)
end Go.Proofs.Ythehcbbdkiomnaa
end
section

/- Contracts of package line's small functions: Clone at glyphs, New, Of, Len, Glyphs, has, At, Set. Conditions: a line in memory; sizes. -/
namespace Go.Proofs.Ythehcbbdkiomnaa
open Go.RowKit Go.Lib

theorem GIs.glyph {B g : Nat} {a : Option Addr} {c : Nat} {l : List (Int × Int)} {w : World} (h : GIs B g a c l w) {j : Nat} {p : Int × Int} (hj : l[j]? = some p) :
    ∃ gb, a = some ⟨gb, 0, none⟩ ∧ B ≤ gb ∧ gb < w.heap.size ∧ gb ≠ g ∧ w.cell? ⟨gb, j * 2, none⟩ = some (.int .i64 p.1) ∧ w.cell? ⟨gb, j * 2 + 1, none⟩ = some (.int .i64 p.2) ∧ w.frozen? ⟨gb, j * 2, none⟩ = false ∧ w.frozen? ⟨gb, j * 2 + 1, none⟩ = false ∧
      (∀ x, GIs B g a c (l.set j (x, p.2)) (w.setCell ⟨gb, j * 2, none⟩ (.int .i64 x))) ∧ (∀ x, GIs B g a c (l.set j (p.1, x)) (w.setCell ⟨gb, j * 2 + 1, none⟩ (.int .i64 x))) := by
  have hlt : j < l.length := (List.getElem?_eq_some_iff.1 hj).1
  obtain ⟨gb, cs, u, rfl, hB, hh, hc, _, hf, hs⟩ := row_at h.row (j * 2) (by omega)
  obtain ⟨gb', cs', u', ha', _, hh', hc', _, hf', hs'⟩ := row_at h.row (j * 2 + 1) (by omega)
  cases ha'
  have hne : gb ≠ g := by
    rintro rfl
    rw [h.hd] at hh
    injection hh with hh
    injection hh with _ h2 _
    exact absurd h2 (by decide)
  have e1 := h.row.cellAt (j * 2) (by omega)
  have e2 := h.row.cellAt (j * 2 + 1) (by omega)
  rw [gv_fst hj] at e1
  rw [gv_snd hj] at e2
  refine ⟨gb, rfl, hB, (Array.getElem?_eq_some_iff.1 hh).1, hne, e1, e2, hf, hf', fun x => ?_, fun x => ?_⟩
  · refine ⟨by rw [set_heap_other _ (Ne.symm hne), List.length_set]; exact h.hd, ?_⟩
    have := hs (.int .i64 x)
    rw [gv_set1 l j x p hj] at this
    rwa [List.length_set]
  · refine ⟨by rw [set_heap_other _ (Ne.symm hne), List.length_set]; exact h.hd, ?_⟩
    have := hs' (.int .i64 x)
    rw [gv_set2 l j x p hj] at this
    rwa [List.length_set]
theorem GStep.set {B g gb o : Nat} {a : Option Addr} {w : World} (v : Value) (ha : a = some ⟨gb, 0, none⟩) (hB : B ≤ gb) : GStep B g a a w (w.setCell ⟨gb, o, none⟩ v) :=
  ⟨(Below.refl _ _).setCell (p := ⟨gb, o, none⟩) hB v, fun k _ _ hk => Below.heap_setCell _ _ _ _ (by rintro rfl; exact hk (by rw [ha]; rfl)), fun _ h => .inl h⟩

theorem eqg_nil (w : World) (n c : Nat) : (binOp .eql 41 (.slice none n c) (.slice none 0 0)).run Try.prog w = .ok (.bool true) w := by kernel_rfl
theorem eqg_some (w : World) (p : Addr) (n c : Nat) : (binOp .eql 41 (.slice (some p) n c) (.slice none 0 0)).run Try.prog w = .ok (.bool false) w := by kernel_rfl
/-- A slice of glyphs of the call's own. -/
def GRow (B : Nat) (l : List (Int × Int)) (v : Value) (w : World) : Prop := ∃ a c, v = .slice a l.length c ∧ w.ownsRow B 100 2 (.slice a l.length c) l.length (gv l)
theorem GRow.below {B : Nat} {l : List (Int × Int)} {v : Value} {w w' : World} (h : GRow B l v w) (hb : Below w.heap.size w w') : GRow B l v w' := by
  obtain ⟨a, c, h1, h2⟩ := h
  exact ⟨a, c, h1, owns_below h2 hb (Nat.le_refl _)⟩
theorem GRow.lit (w : World) (l : List (Int × Int)) (B : Nat) (hB : B ≤ w.heap.size) (hl : l.length ≤ maxLen) (cs : Array Value) (hc : cs.toList = gv l) : GRow B l (.slice (some ⟨w.heap.size, 0, none⟩) l.length l.length) (w.alloc (.cells cs 100)) := by
  refine ⟨_, _, rfl, ?_⟩
  have := World.ownsRow_lit (e := 100) (size := 2) w cs l.length hB hl (by rw [← Array.length_toList, hc, gv_length])
  rwa [hc] at this
theorem wpAppG {w : World} {ops : Array Oper} {rest : List Oper} {o : Oper} {a : Act} {Q : Exit → Act → World → Prop} (hgd : o.guard = none) (s x : Operand)
    (ho : o.op = .call { callee := .builtin .append, args := #[s, x], argTypes := #[41, 41] }) (B : Nat) (v : Value) (l m : List (Int × Int)) (hs : a.eval s = v) (hown : GRow B l v w)
    (A : Option Addr) (k c : Nat) (hx : a.eval x = .slice A k c) (hk : m.length = k) (hh : Has w A (gv m)) (hA : A = none → c = 0) (hsz : l.length + k ≤ 100000000) (hB : B ≤ w.heap.size)
    (h' : ∀ a' c' w', GRow B (l ++ m) (.slice a' (l.length + k) c') w' → Below B w w' → w.grownBy w' v.ownBlock → wpList Try.prog ops Q rest (a.put o.dst (.slice a' (l.length + k) c')) w') : wpList Try.prog ops Q (o :: rest) a w := by
  obtain ⟨a0, c0, rfl, ho0⟩ := hown
  refine wpApp hgd s x 41 ho B 100 (.agg #[.int .i64 0, .int .i64 0]) 2 16 Try.underlying41 info_glyph rfl (by decide) _ l.length (gv l) hs ho0 A k c (gv m) hx (by rw [gv_length, hk]) hh hA (gv_one m) (by unfold maxLen; omega) (by omega) hB ?_
  intro a1 c1 w1 hown k1 k2 k3 hb1 hg1
  refine h' a1 c1 w1 ⟨a1, c1, by rw [List.length_append, hk], ?_⟩ hb1 hg1
  rw [gv_append, List.length_append, hk]
  exact hown

set_option maxHeartbeats 800000 in
theorem gclone_any (a : Option Addr) (n c : Nat) (l : List (Int × Int)) (w : World) (h : Has w a (gv l)) (hl : l.length = n) (hn : n ≤ 1000000) :
    Calls Try.prog 52 #[.slice a n c] w fun e w' => ∃ a' c', e = .returned (.slice a' n c') ∧ w'.ownsRow w.heap.size 100 2 (.slice a' n c') n (gv l) ∧ n ≤ c' ∧ c' ≤ maxLen ∧ (a' = none → c' = 0) ∧ Below w.heap.size w w' := by
  have HH := Lib.hid h
  have HL := Lib.hid hl
  have hE0 := eqg_nil
  have hE1 := eqg_some
  clear h hl
  cases a with
  | none =>
    go_enter Try.func52, Try.ntmps52
    go_wp2
    go_ret
    have h0 : l = [] := by
      rcases l with _ | ⟨b, bs⟩
      · rfl
      · obtain ⟨p, hp, _⟩ := HH.out 0 (.int .i64 b.1) (by simp [gv_cons])
        cases hp
    have hl := HL.out
    subst h0
    obtain rfl : n = 0 := by simpa using hl.symm
    exact ⟨none, 0, rfl, World.ownsRow_nil _ _ _ _, Nat.le_refl _, Nat.zero_le _, fun _ => rfl, brefl _⟩
  | some p =>
    go_enter Try.func52, Try.ntmps52
    go_wp2_with (at_builtin; refine wpApp rfl _ _ 41 rfl w.heap.size 100 (.agg #[.int .i64 0, .int .i64 0]) 2 16 Try.underlying41 info_glyph rfl (by decide) _ 0 [] rfl (World.ownsRow_lit w #[] 0 (Nat.le_refl _) (by decide) rfl) (some p) n c (gv l) rfl (by rw [gv_length, HL.out]) (HH.out.below (balloc (brefl _) _)) (fun h => by cases h) (gv_one l) (by unfold maxLen; omega) (by omega) (by simp) ?_; intro a1 c1 w1 hown k1 k2 k3 hb1 _; have HO := Lib.hid hown; clear hown)
    go_ret
    have e0 : 0 + n = n := Nat.zero_add n
    exact ⟨a1, c1, by rw [← e0]; rfl, by simpa using HO.out, by omega, k2, k3, (balloc (brefl _) _).trans hb1⟩

set_option maxHeartbeats 800000 in
theorem glen_any (B g : Nat) (a : Option Addr) (c : Nat) (l : List (Int × Int)) (w : World) (h : GIs B g a c l w) :
    Calls Try.prog 72 #[.pointer (some ⟨g, 0, none⟩)] w fun e w' => e = .returned (.int .i64 (l.length : Nat)) ∧ w = w' := by
  have q0 := cell_of_heap h.hd 0
  simp only [List.getElem?_toArray, List.getElem?_cons_zero] at q0
  clear h
  generalize l.length = n at *
  go_enter Try.func72, Try.ntmps72
  go_wp2_with fail
  go_ret
  exact ⟨rfl, rfl⟩
set_option maxHeartbeats 800000 in
theorem gglyphs_any (B g : Nat) (a : Option Addr) (c : Nat) (l : List (Int × Int)) (w : World) (h : GIs B g a c l w) (hn : l.length ≤ 1000000) :
    Calls Try.prog 18 #[.pointer (some ⟨g, 0, none⟩)] w fun e w' => ∃ a' c', e = .returned (.slice a' l.length c') ∧ w'.ownsRow w.heap.size 100 2 (.slice a' l.length c') l.length (gv l) ∧ l.length ≤ c' ∧ c' ≤ maxLen ∧ (a' = none → c' = 0) ∧ Below w.heap.size w w' := by
  have HC := Lib.hid (gclone_any a l.length c l w h.has rfl hn)
  have q0 := cell_of_heap h.hd 0
  simp only [List.getElem?_toArray, List.getElem?_cons_zero] at q0
  clear h
  generalize l.length = n at *
  go_enter Try.func18, Try.ntmps18
  go_wp2_with (go_at_call 52; refine HC.out.mono ?_; rintro e w1 ⟨a1, c1, rfl, hown, k1, k2, k3, hb1⟩; have HO := Lib.hid hown; clear hown)
  go_ret
  exact ⟨a1, c1, rfl, HO.out, k1, k2, k3, hb1⟩
def inG (l : List (Int × Int)) (z : Int) : Bool := decide (0 ≤ z) && decide (z < (l.length : Int))
set_option maxHeartbeats 800000 in
theorem ghas_any (B g : Nat) (a : Option Addr) (c : Nat) (l : List (Int × Int)) (w : World) (h : GIs B g a c l w) (z : Int) :
    Calls Try.prog 76 #[.pointer (some ⟨g, 0, none⟩), .int .i64 z] w fun e w' => e = .returned (.bool (inG l z)) ∧ w = w' := by
  have q0 := cell_of_heap h.hd 0
  simp only [List.getElem?_toArray, List.getElem?_cons_zero] at q0
  unfold inG
  clear h
  generalize l.length = n at *
  by_cases h0 : 0 ≤ z
  · have d0 : decide (0 ≤ z) = true := by simpa using h0
    rw [d0, Bool.true_and]
    clear h0
    go_enter Try.func76, Try.ntmps76
    go_wp2_with fail
    go_ret
    exact ⟨rfl, rfl⟩
  · have d0 : decide (0 ≤ z) = false := by simpa using h0
    rw [d0, Bool.false_and]
    clear h0
    go_enter Try.func76, Try.ntmps76
    go_wp2_with fail
    go_ret
    exact ⟨rfl, rfl⟩
theorem inG_yes {l : List (Int × Int)} {z : Int} (h : inG l z = true) : ∃ (j : Nat) (p : Int × Int), z = (j : Nat) ∧ l[j]? = some p := by
  simp only [inG, Bool.and_eq_true, decide_eq_true_eq] at h
  exact ⟨z.toNat, _, by omega, List.getElem?_eq_getElem (by omega)⟩
theorem inG_of {l : List (Int × Int)} {j : Nat} {p : Int × Int} (h : l[j]? = some p) : inG l (j : Nat) = true := by
  have := (List.getElem?_eq_some_iff.1 h).1
  simp only [inG, Bool.and_eq_true, decide_eq_true_eq]
  omega
def atG (l : List (Int × Int)) (z : Int) : Int × Int := if inG l z then l.getD z.toNat (0, 0) else (0, 0)
theorem atG_of {l : List (Int × Int)} {j : Nat} {p : Int × Int} (h : l[j]? = some p) : atG l (j : Nat) = p := by
  rw [atG, if_pos (inG_of h), Int.toNat_natCast, List.getD_eq_getElem?_getD, h]
  rfl
def glyphA (p : Int × Int) : Value := .agg #[.int .i64 p.1, .int .i64 p.2]
set_option maxHeartbeats 800000 in
theorem gat_any (B g : Nat) (a : Option Addr) (c : Nat) (l : List (Int × Int)) (w : World) (h : GIs B g a c l w) (z : Int) :
    Calls Try.prog 44 #[.pointer (some ⟨g, 0, none⟩), .int .i64 z] w fun e w' => e = .returned (.tuple #[glyphA (atG l z), .bool (inG l z)]) ∧ Below w.heap.size w w' := by
  have hAC := allocC
  have hAF := allocF
  cases hin : inG l z with
  | false =>
    have hat : atG l z = (0, 0) := by rw [atG, if_neg (by rw [hin]; decide)]
    have HA := Lib.hid (fun W (hW : Below w.heap.size w W) => ghas_any B g a c l W (h.below hW) z)
    rw [hin] at HA
    rw [hat]
    clear hat h hin
    go_enter Try.func44, Try.ntmps44
    go_wp2_with (first | (go_at_call 76; (with_reducible refine (HA.out _ (by exact blw)).mono ?_); rintro e w_ ⟨rfl, rfl⟩))
    refine bodyPost_ret (v := .tuple #[.agg #[.int .i64 0, .int .i64 0], .bool false]) (by simp [results, Try.results44, go_sem, hAC, hAF]) rfl ?_
    exact ⟨rfl, blw⟩
  | true =>
    obtain ⟨j, p, rfl, hj⟩ := inG_yes hin
    rw [atG_of hj]
    have HA := Lib.hid (fun W (hW : Below w.heap.size w W) => ghas_any B g a c l W (h.below hW) (j : Nat))
    rw [hin] at HA
    obtain ⟨gb, rfl, _, hgb, hne, c1, c2, f1, f2, _⟩ := h.glyph hj
    have q0 := cell_of_heap h.hd 0
    simp only [List.getElem?_toArray, List.getElem?_cons_zero] at q0
    have hlt := (List.getElem?_eq_some_iff.1 hj).1
    have hg := (Array.getElem?_eq_some_iff.1 h.hd).1
    obtain ⟨p1, p2⟩ := p
    simp only [glyphA] at *
    clear h hin hj
    generalize l.length = n at *
    go_enter Try.func44, Try.ntmps44
    go_wp2_with (first | (go_at_call 76; (with_reducible refine (HA.out _ (by exact blw)).mono ?_); rintro e w_ ⟨rfl, rfl⟩))
    refine bodyPost_ret (v := .tuple #[.agg #[.int .i64 p1, .int .i64 p2], .bool true]) (by simp [results, Try.results44, go_sem, hAC, hAF]) rfl ?_
    exact ⟨rfl, blw⟩
set_option maxHeartbeats 800000 in
theorem gset_any (B g : Nat) (a : Option Addr) (c : Nat) (l : List (Int × Int)) (w : World) (h : GIs B g a c l w) (z x : Int) :
    Calls Try.prog 99 #[.pointer (some ⟨g, 0, none⟩), .int .i64 z, .int .i64 x] w fun e w' => e = .returned (.bool (inG l z)) ∧ GIs B g a c (if inG l z then l.set z.toNat (x, (atG l z).2) else l) w' ∧ GStep B g a a w w' ∧ w'.heap.size = w.heap.size := by
  have HA := Lib.hid (ghas_any B g a c l w h z)
  have HG := Lib.hid h
  cases hin : inG l z with
  | false =>
    rw [hin] at HA
    clear hin h
    go_enter Try.func99, Try.ntmps99
    go_wp2_with (first | (go_at_call 76; (with_reducible refine HA.out.mono ?_); rintro e w_ ⟨rfl, rfl⟩))
    go_ret
    exact ⟨rfl, HG.out, ⟨Below.refl _ _, fun _ _ _ _ => rfl, fun _ h => .inl h⟩, rfl⟩
  | true =>
    obtain ⟨j, p, rfl, hj⟩ := inG_yes hin
    rw [atG_of hj, Int.toNat_natCast]
    rw [hin] at HA
    obtain ⟨gb, rfl, hBg, hgb, hne, c1, c2, f1, f2, hs1, _⟩ := h.glyph hj
    have q0 := cell_of_heap h.hd 0
    simp only [List.getElem?_toArray, List.getElem?_cons_zero] at q0
    have hlt := (List.getElem?_eq_some_iff.1 hj).1
    have HS := Lib.hid (hs1 x)
    clear h hin hj hs1
    generalize l.length = n at *
    go_enter Try.func99, Try.ntmps99
    go_wp2_with (first | (go_at_call 76; (with_reducible refine HA.out.mono ?_); rintro e w_ ⟨rfl, rfl⟩))
    go_ret
    exact ⟨rfl, HS.out, GStep.set _ rfl hBg, by simp⟩
end Go.Proofs.Ythehcbbdkiomnaa
end
section

/- Rows of numbers as cells. No condition of its own. -/
namespace Go.Proofs.Ythehcbbdkiomnaa
open Go.RowKit

def iv (ids : List Int) : List Value := ids.map fun z => .int .i64 z
theorem iv_get {ids : List Int} {j : Nat} {z : Int} (h : ids[j]? = some z) : (iv ids)[j]? = some (.int .i64 z) := by simp [iv, List.getElem?_map, h]
theorem iv_length (ids : List Int) : (iv ids).length = ids.length := by simp [iv]
theorem iv_append (a b : List Int) : iv (a ++ b) = iv a ++ iv b := by simp [iv]
theorem iv_one (l : List Int) : ∀ u ∈ iv l, u.oneCell' = true := by
  intro u hu
  simp only [iv, List.mem_map] at hu
  obtain ⟨z, _, rfl⟩ := hu
  rfl
/-- A number of a slice of numbers. -/
theorem iv_at {w : World} {a : Option Addr} {ids : List Int} (h : Has w a (iv ids)) {k : Nat} (hk : k < ids.length) : ∃ g o z, a = some ⟨g, o, none⟩ ∧ g < w.heap.size ∧ ids[k]? = some z ∧ w.cell? ⟨g, o + k, none⟩ = some (.int .i64 z) := by
  obtain ⟨g, o, ha, hg, hx⟩ := h.get (by rw [iv_length]; omega)
  exact ⟨g, o, ids[k], ha, hg, List.getElem?_eq_getElem hk, hx k _ (iv_get (List.getElem?_eq_getElem hk))⟩
end Go.Proofs.Ythehcbbdkiomnaa
end
section

/- Contracts of line.New, and of the document's New, Turn, Clean, Set and Same of glyphs. Conditions: as many cells as the slices say; sizes. -/
namespace Go.Proofs.Ythehcbbdkiomnaa
open Go.RowKit Go.Lib

/-- A glyph of a slice of glyphs. -/
theorem gv_at {w : World} {a : Option Addr} {l : List (Int × Int)} (h : Has w a (gv l)) {k : Nat} (hk : k < l.length) : ∃ g o p, a = some ⟨g, o, none⟩ ∧ g < w.heap.size ∧ l[k]? = some p ∧ w.cell? ⟨g, o + k * 2, none⟩ = some (.int .i64 p.1) ∧ w.cell? ⟨g, o + k * 2 + 1, none⟩ = some (.int .i64 p.2) := by
  obtain ⟨g, o, ha, hg, hx⟩ := h.get (by rw [gv_length]; omega)
  exact ⟨g, o, l[k], ha, hg, List.getElem?_eq_getElem hk, hx _ _ (gv_fst (List.getElem?_eq_getElem hk)), hx _ _ (gv_snd (List.getElem?_eq_getElem hk))⟩
def newG (ids : List Int) : List (Int × Int) := ids.mapIdx fun i z => (z, (i : Int))
theorem newG_length (ids : List Int) : (newG ids).length = ids.length := by simp [newG]
theorem newG_get (ids : List Int) (k : Nat) : (newG ids)[k]? = ids[k]?.map fun z => (z, (k : Int)) := by simp [newG]
def partN (ids : List Int) (k : Nat) : List (Int × Int) := (newG ids).take k ++ List.replicate (ids.length - k) (0, 0)
theorem partN_zero (ids : List Int) : partN ids 0 = List.replicate ids.length (0, 0) := by simp [partN]
theorem partN_all (ids : List Int) : partN ids ids.length = newG ids := by simp [partN, List.take_of_length_le (Nat.le_of_eq (newG_length ids))]
theorem partN_set (ids : List Int) (k : Nat) (z : Int) (h : ids[k]? = some z) : (partN ids k).set k (z, (k : Int)) = partN ids (k + 1) := by
  have hlt := (List.getElem?_eq_some_iff.1 h).1
  have hg : (newG ids)[k]? = some (z, (k : Int)) := by rw [newG_get, h]; rfl
  rw [partN, partN, List.take_add_one, hg, List.set_append, if_neg (by rw [List.length_take, newG_length]; omega)]
  rw [show ids.length - k = ids.length - (k + 1) + 1 by omega, List.replicate_succ]
  rw [List.length_take, newG_length, Nat.min_eq_left (by omega), Nat.sub_self, List.set_cons_zero]
  simp
set_option maxHeartbeats 1600000 in
theorem gnew_any (a : Option Addr) (n c : Nat) (ids : List Int) (w : World) (h : Has w a (iv ids)) (hl : ids.length = n) (hn : n ≤ 1000000) :
    Calls Try.prog 13 #[.slice a n c] w fun e w' => ∃ g a' c', e = .returned (.pointer (some ⟨g, 0, none⟩)) ∧ GIs w.heap.size g a' c' (newG ids) w' ∧ w.heap.size ≤ g ∧ Below w.heap.size w w' := by
  have HH := Lib.hid h
  have HL := Lib.hid hl
  clear h hl
  go_enter Try.func13, Try.ntmps13
  go_wp2_with (refine wpMake w rfl _ _ 41 rfl w.heap.size 100 (.agg #[.int .i64 0, .int .i64 0]) 2 16 Try.underlying41 info_glyph n rfl rfl (by omega) (by unfold maxLen; omega) (Nat.le_refl _) ?_; intro w1 hown hb1; rw [made_glyph] at hown; have HO := Lib.hid hown; clear hown)
  have hz1 := hb1.size
  have HB1 := Lib.hid hb1
  clear hb1
  go_loopw [11] (fun i wr => ∃ j : Nat, j ≤ n ∧ i = .int .i64 (j : Nat) ∧ wr.ownsRow w.heap.size 100 2 (.slice (some ⟨w.heap.size, 0, none⟩) n n) n (gv (partN ids j)) ∧ Below w.heap.size w wr) (fun i _ => n - (Go.RowKit.intOf i).toNat)
  case atStart => exact ⟨0, Nat.zero_le _, rfl, by rw [partN_zero, HL.out]; exact HO.out, HB1.out⟩
  case round =>
    obtain ⟨j, hj, rfl, hx, hb⟩ := hrel
    have HX := Lib.hid hx
    have HB := Lib.hid hb
    clear hx hb
    by_cases hlt : j < n
    · obtain ⟨gi, oi, z, rfl, hgi, hz, hci⟩ := iv_at (HH.out.below HB.out) (k := j) (by rw [HL.out]; exact hlt)
      obtain ⟨g2, cs2, u2, he, _, hh2, hc2, _, f2, hs2⟩ := row_at HX.out (j * 2) (by omega)
      obtain ⟨g3, cs3, u3, he3, _, hh3, hc3, _, f3, hs3⟩ := row_at (hs2 (.int .i64 z)) (j * 2 + 1) (by omega)
      cases he
      cases he3
      have hc3' : ∃ u, wr.cell? ⟨w.heap.size, j * 2 + 1, none⟩ = some u := by
        obtain ⟨_, _, u, he, _, _, hc, _⟩ := row_at HX.out (j * 2 + 1) (by omega)
        cases he
        exact ⟨u, hc⟩
      obtain ⟨u3', hc3'⟩ := hc3'
      have f3' : wr.frozen? ⟨w.heap.size, j * 2 + 1, none⟩ = false := by
        obtain ⟨_, _, u, he, _, _, _, _, hf, _⟩ := row_at HX.out (j * 2 + 1) (by omega)
        cases he
        exact hf
      have hs := hs3 (.int .i64 (j : Nat))
      rw [gv_set, partN_set ids j z hz] at hs
      have HS := Lib.hid hs
      have HB2 := Lib.hid ((HB.out.setCell (p := ⟨w.heap.size, j * 2, none⟩) (Nat.le_refl _) (.int .i64 z)).setCell (p := ⟨w.heap.size, j * 2 + 1, none⟩) (Nat.le_refl _) (.int .i64 (j : Nat)))
      clear hs hs2 hs3 hh2 hh3 hc3 f3 hz
      go_wp2_with fail
      go_roundw
      case rel => exact ⟨j + 1, hlt, by go_num, HS.out, HB2.out⟩
      case measure => simp [Go.RowKit.intOf]; omega
    · obtain rfl : n = j := by omega
      go_wp2_with fail
      go_ret
      have hzr := HB.out.size
      have ho := HX.out
      have hl := HL.out
      refine ⟨wr.heap.size, _, _, rfl, ⟨by rw [newG_length, hl]; exact heap_new _ _ _, ?_⟩, by omega, HB.out.alloc HB.out.size _⟩
      rw [newG_length, hl]
      rw [← hl] at ho ⊢
      rw [partN_all] at ho
      exact ho.alloc _
set_option maxHeartbeats 1600000 in
theorem refNewG_any (a : Option Addr) (n c : Nat) (ids : List Int) (w : World) (h : Has w a (iv ids)) (hl : ids.length = n) (hn : n ≤ 1000000) :
    Calls Try.prog 16 #[.slice a n c] w fun e w' => ∃ a' c', e = .returned (.slice a' n c') ∧ w'.ownsRow w.heap.size 100 2 (.slice a' n c') n (gv (newG ids)) ∧ Below w.heap.size w w' := by
  have HH := Lib.hid h
  have HL := Lib.hid hl
  clear h hl
  go_enter Try.func16, Try.ntmps16
  go_wp2_with fail
  go_loopw [3, 4] (fun v i wr => ∃ j : Nat, j ≤ n ∧ i = .int .i64 (j : Nat) ∧ GRow w.heap.size ((newG ids).take j) v wr ∧ Below w.heap.size w wr) (fun _ i _ => n - (Go.RowKit.intOf i).toNat)
  case atStart => exact ⟨0, Nat.zero_le _, rfl, by rw [List.take_zero]; exact GRow.lit w [] _ (Nat.le_refl _) (Nat.zero_le _) #[] rfl, blw⟩
  case round =>
    obtain ⟨j, hj, rfl, hx, hb⟩ := hrel
    have HX := Lib.hid hx
    have HB := Lib.hid hb
    have hzr := hb.size
    clear hx hb
    by_cases hlt : j < n
    · obtain ⟨gi, oi, z, rfl, hgi, hz, hci⟩ := iv_at (HH.out.below HB.out) (k := j) (by rw [HL.out]; exact hlt)
      have HZ := Lib.hid hz
      clear hz
      obtain ⟨X, hX⟩ : ∃ X, X = (newG ids).take j := ⟨_, rfl⟩
      have hXl : X.length = j := by rw [hX, List.length_take, newG_length, HL.out]; omega
      rw [← hX] at HX
      have HXX := Lib.hid hX
      clear hX
      go_wp2_with (at_builtin; refine wpAppG rfl _ _ rfl w.heap.size _ X [(z, (j : Int))] rfl (HX.out.below (balloc (brefl _) _)) (some ⟨wr.heap.size, 0, none⟩) 1 1 rfl rfl (has_alloc wr _ _) (fun h => by cases h) (by omega) (by simp; omega) ?_; intro a2 c2 w2 hg2 hb2 _; have HG2 := Lib.hid hg2; have HB2 := Lib.hid ((HB.out.alloc HB.out.size _).trans hb2); clear hg2 hb2)
      go_roundw
      case rel =>
        refine ⟨j + 1, hlt, by go_num, ?_, HB2.out⟩
        have := HG2.out
        rw [HXX.out] at this
        rw [List.take_add_one, newG_get, HZ.out]
        simpa [newG_length, HL.out, Nat.min_eq_left hj] using this
      case measure => simp [Go.RowKit.intOf]; omega
    · obtain rfl : n = j := by omega
      have hl := HL.out
      obtain ⟨a1, c1, rfl, ho⟩ := HX.out
      rw [List.take_of_length_le (by rw [newG_length]; omega)] at ho
      rw [List.take_of_length_le (by rw [newG_length]; omega)]
      rw [newG_length, hl] at ho ⊢
      have HO := Lib.hid ho
      clear ho HX
      go_wp2_with fail
      go_ret
      exact ⟨a1, c1, rfl, HO.out, HB.out⟩
set_option maxHeartbeats 1600000 in
theorem refSameG_any (a b : Option Addr) (n c m d : Nat) (l k : List (Int × Int)) (w : World) (h : Has w a (gv l)) (hl : l.length = n) (h2 : Has w b (gv k)) (hk : k.length = m) (hn : n ≤ 1000000) (hm : m ≤ 1000000) :
    Calls Try.prog 17 #[.slice a n c, .slice b m d] w fun e w' => e = .returned (.bool (decide (l = k))) ∧ Below w.heap.size w w' := by
  have HH := Lib.hid h
  have HK := Lib.hid h2
  have HL := Lib.hid hl
  have HKL := Lib.hid hk
  clear h h2 hl hk
  by_cases hnm : n = m
  case neg =>
    have he : decide (l = k) = false := by
      simp only [decide_eq_false_iff_not]
      rintro rfl
      exact hnm (HL.out.symm.trans HKL.out)
    rw [he]
    have hne : ¬ (n : Int) = (m : Int) := by omega
    clear hnm he
    go_enter Try.func17, Try.ntmps17
    go_wp2_with fail
    go_ret
    exact ⟨rfl, blw⟩
  subst hnm
  go_enter Try.func17, Try.ntmps17
  go_wp2_with fail
  go_loopw [5] (fun i wr => ∃ j : Nat, j ≤ n ∧ i = .int .i64 (j : Nat) ∧ l.take j = k.take j ∧ Below w.heap.size w wr) (fun i _ => n - (Go.RowKit.intOf i).toNat)
  case atStart => exact ⟨0, Nat.zero_le _, rfl, by simp, blw⟩
  case round =>
    obtain ⟨j, hj, rfl, hx, hb⟩ := hrel
    have HX := Lib.hid hx
    have HB := Lib.hid hb
    have hzr := hb.size
    clear hx hb
    by_cases hlt : j < n
    · obtain ⟨gi, oi, p, rfl, hgi, hp, hc1, hc2⟩ := gv_at (HH.out.below HB.out) (k := j) (by rw [HL.out]; omega)
      obtain ⟨gk, ok, q, rfl, hgk, hq, hd1, hd2⟩ := gv_at (HK.out.below HB.out) (k := j) (by rw [HKL.out]; omega)
      have HP := Lib.hid hp
      have HQ := Lib.hid hq
      clear hp hq
      obtain ⟨p1, p2⟩ := p
      obtain ⟨q1, q2⟩ := q
      simp only at hc1 hc2 hd1 hd2
      by_cases h6 : p1 = q1 ∧ p2 = q2
      · obtain ⟨rfl, rfl⟩ := h6
        go_wp2_with fail
        refine wp_region_tree (.step 0 (.step 1 (.step 2 (.step 3 (.step 4 (.step 5 (.step 6 (.step 7 (.step 8 .nil))))))))) (by kernel_rfl) (by kernel_rfl) (by kernel_rfl) (by kernel_rfl) (by intro _ _ d_ _ _ h_; cases d_ <;> first | exact h_ | (dsimp +zetaDelta only at h_ ⊢; exact h_)) (fun w' => ∃ p : Wld wr [], w' = p.val) (wld_start _ _) ?_
        have hG_ := @wldC wr
        (refine tree_quiet gtA (by rfl) (by rfl) (fun K_ hK_ => ?_); go_big_quiet_op; refine hK_ _ ?_; clear hK_ K_)
        (refine tree_quiet gtA (by rfl) (by rfl) (fun K_ hK_ => ?_); go_big_quiet_op; refine hK_ _ ?_; clear hK_ K_)
        (refine tree_quiet gtA (by rfl) (by rfl) (fun K_ hK_ => ?_); go_big_quiet_op; refine hK_ _ ?_; clear hK_ K_)
        (refine tree_quiet gtA (by rfl) (by rfl) (fun K_ hK_ => ?_); go_big_quiet_op; refine hK_ _ ?_; clear hK_ K_)
        (refine tree_quiet gtA (by rfl) (by rfl) (fun K_ hK_ => ?_); go_big_quiet_op; refine hK_ _ ?_; clear hK_ K_)
        (refine tree_quiet gtA (by rfl) (by rfl) (fun K_ hK_ => ?_); go_big_quiet_op; refine hK_ _ ?_; clear hK_ K_)
        (refine tree_quiet gtA (by rfl) (by rfl) (fun K_ hK_ => ?_); go_big_quiet_op; refine hK_ _ ?_; clear hK_ K_)
        (refine tree_quiet gtA (by rfl) (by rfl) (fun K_ hK_ => ?_); go_big_quiet_op; refine hK_ _ ?_; clear hK_ K_)
        (refine tree_quiet gtA (by rfl) (by rfl) (fun K_ hK_ => ?_); go_big_quiet_op; refine hK_ _ ?_; clear hK_ K_)
        refine tree_nil ?_
        clear hG_
        go_wp2_with fail
        go_roundw
        case rel => exact ⟨j + 1, hlt, by go_num, by rw [List.take_add_one, List.take_add_one, HX.out, HP.out, HQ.out], HB.out.drew⟩
        case measure => simp [Go.RowKit.intOf]; omega
      · have he : decide (l = k) = false := by
          simp only [decide_eq_false_iff_not]
          intro e
          have h1 := HP.out
          rw [e, HQ.out] at h1
          injection h1 with h1
          injection h1 with h1 h2
          exact h6 ⟨h1.symm, h2.symm⟩
        have HE := Lib.hid he
        clear he
        by_cases h7 : p1 = q1
        · subst h7
          have h8 : ¬ p2 = q2 := fun e => h6 ⟨rfl, e⟩
          clear h6
          go_wp2_with fail
          refine wp_region_tree (.step 0 (.step 1 (.step 2 (.step 3 (.step 4 (.step 5 (.step 6 (.step 7 (.step 8 .nil))))))))) (by kernel_rfl) (by kernel_rfl) (by kernel_rfl) (by kernel_rfl) (by intro _ _ d_ _ _ h_; cases d_ <;> first | exact h_ | (dsimp +zetaDelta only at h_ ⊢; exact h_)) (fun w' => ∃ p : Wld wr [], w' = p.val) (wld_start _ _) ?_
          have hG_ := @wldC wr
          (refine tree_quiet gtA (by rfl) (by rfl) (fun K_ hK_ => ?_); go_big_quiet_op; refine hK_ _ ?_; clear hK_ K_)
          (refine tree_quiet gtA (by rfl) (by rfl) (fun K_ hK_ => ?_); go_big_quiet_op; refine hK_ _ ?_; clear hK_ K_)
          (refine tree_quiet gtA (by rfl) (by rfl) (fun K_ hK_ => ?_); go_big_quiet_op; refine hK_ _ ?_; clear hK_ K_)
          (refine tree_quiet gtA (by rfl) (by rfl) (fun K_ hK_ => ?_); go_big_quiet_op; refine hK_ _ ?_; clear hK_ K_)
          (refine tree_quiet gtA (by rfl) (by rfl) (fun K_ hK_ => ?_); go_big_quiet_op; refine hK_ _ ?_; clear hK_ K_)
          (refine tree_quiet gtA (by rfl) (by rfl) (fun K_ hK_ => ?_); go_big_quiet_op; refine hK_ _ ?_; clear hK_ K_)
          (refine tree_quiet gtA (by rfl) (by rfl) (fun K_ hK_ => ?_); go_big_quiet_op; refine hK_ _ ?_; clear hK_ K_)
          (refine tree_quiet gtA (by rfl) (by rfl) (fun K_ hK_ => ?_); go_big_quiet_op; refine hK_ _ ?_; clear hK_ K_)
          (refine tree_quiet gtA (by rfl) (by rfl) (fun K_ hK_ => ?_); go_big_quiet_op; refine hK_ _ ?_; clear hK_ K_)
          refine tree_nil ?_
          clear hG_
          go_wp2_with fail
          go_ret
          exact ⟨by rw [HE.out]; rfl, HB.out.drew⟩
        · clear h6
          go_wp2_with fail
          refine wp_region_tree (.step 0 (.step 1 (.step 2 (.step 3 (.step 4 (.step 5 (.step 6 (.step 7 (.step 8 .nil))))))))) (by kernel_rfl) (by kernel_rfl) (by kernel_rfl) (by kernel_rfl) (by intro _ _ d_ _ _ h_; cases d_ <;> first | exact h_ | (dsimp +zetaDelta only at h_ ⊢; exact h_)) (fun w' => ∃ p : Wld wr [], w' = p.val) (wld_start _ _) ?_
          have hG_ := @wldC wr
          (refine tree_quiet gtA (by rfl) (by rfl) (fun K_ hK_ => ?_); go_big_quiet_op; refine hK_ _ ?_; clear hK_ K_)
          (refine tree_quiet gtA (by rfl) (by rfl) (fun K_ hK_ => ?_); go_big_quiet_op; refine hK_ _ ?_; clear hK_ K_)
          (refine tree_quiet gtA (by rfl) (by rfl) (fun K_ hK_ => ?_); go_big_quiet_op; refine hK_ _ ?_; clear hK_ K_)
          (refine tree_quiet gtA (by rfl) (by rfl) (fun K_ hK_ => ?_); go_big_quiet_op; refine hK_ _ ?_; clear hK_ K_)
          (refine tree_quiet gtA (by rfl) (by rfl) (fun K_ hK_ => ?_); go_big_quiet_op; refine hK_ _ ?_; clear hK_ K_)
          (refine tree_quiet gtA (by rfl) (by rfl) (fun K_ hK_ => ?_); go_big_quiet_op; refine hK_ _ ?_; clear hK_ K_)
          (refine tree_quiet gtA (by rfl) (by rfl) (fun K_ hK_ => ?_); go_big_quiet_op; refine hK_ _ ?_; clear hK_ K_)
          (refine tree_quiet gtA (by rfl) (by rfl) (fun K_ hK_ => ?_); go_big_quiet_op; refine hK_ _ ?_; clear hK_ K_)
          (refine tree_quiet gtA (by rfl) (by rfl) (fun K_ hK_ => ?_); go_big_quiet_op; refine hK_ _ ?_; clear hK_ K_)
          refine tree_nil ?_
          clear hG_
          go_wp2_with fail
          go_ret
          exact ⟨by rw [HE.out]; rfl, HB.out.drew⟩
    · obtain rfl : n = j := by omega
      have he : decide (l = k) = true := by
        simp only [decide_eq_true_eq]
        have := HX.out
        rwa [List.take_of_length_le (Nat.le_of_eq HL.out), List.take_of_length_le (Nat.le_of_eq HKL.out)] at this
      have HE := Lib.hid he
      clear he HX
      go_wp2_with fail
      go_ret
      exact ⟨by rw [HE.out]; rfl, HB.out⟩
def setG (l : List (Int × Int)) (z x : Int) : List (Int × Int) := if inG l z then l.set z.toNat (x, (atG l z).2) else l
theorem setG_length (l : List (Int × Int)) (z x : Int) : (setG l z x).length = l.length := by unfold setG; split <;> simp
end Go.Proofs.Ythehcbbdkiomnaa
end
section

/- slices.Insert at glyphs, onto a row of the call's own; (*line.Line).Insert. Conditions: rows of their own, apart; a place that is there; sizes. -/
namespace Go.Proofs.Ythehcbbdkiomnaa
open Go.RowKit Go.Lib

/-- What a change of a slice may touch: its own block. -/
structure RStep (B : Nat) (a a' : Option Addr) (w w' : World) : Prop where
  below : Below B w w'
  keep : ∀ k, k < w.heap.size → some k ≠ a.map (·.block) → w'.heap[k]? = w.heap[k]?
  new : ∀ k, a'.map (·.block) = some k → a.map (·.block) = some k ∨ w.heap.size ≤ k
theorem RStep.refl (B : Nat) (a : Option Addr) (w : World) : RStep B a a w w := ⟨Below.refl _ _, fun _ _ _ => rfl, fun _ h => .inl h⟩
/-- 'copy' into a row that is known whole, between elements of k cells. -/
theorem run_copyRowK {P : Program} (w : World) (dT sT ty elem : TypeId) (k g o dLen dCap : Nat) (a : Addr) (sLen sCap : Nat) (cur : Array Value) (t : TypeId) (cs : List Value)
    (hu : P.underlying dT = some (.slice elem)) (hs : (P.info? elem).map (·.size) = some k)
    (hg : w.heap[g]? = some (.cells cur t (0, 0))) (hn : cs.length = Nat.min sLen dLen * k)
    (hsrc : ∀ j v, cs[j]? = some v → w.cell? (a.add j) = some v) (hfit : o + cs.length ≤ cur.size) (h1 : ∀ v ∈ cs, v.oneCell' = true) :
    (Builtin.copy_ #[dT, sT] ty #[.slice (some ⟨g, o, none⟩) dLen dCap, .slice (some a) sLen sCap]).run P w =
      .ok (goInt (Nat.min sLen dLen)) (w.setRow g (splice cur.toList o cs).toArray) := by
  have hl := run_loadCells_list (P := P) w a cs hsrc
  have hst := run_storeCells_at P g o t cs 0 cur w hg (by simpa using hfit) h1
  cases hq : P.info? elem with
  | none => simp [hq] at hs
  | some i =>
    have hi : i.size = k := by simpa [hq] using hs
    simp [Builtin.copy_, run_underlying hu, Builtin.lenOf, Builtin.firstCells, sizeOf, typeInfo, hq, hi, ← hn, hl, hst, splice]
theorem wpCopyO {P : Program} {w : World} {o : Oper} {a : Act} {K : Act → World → Prop} {Q : Exit → Act → World → Prop} (d s : Operand) (dT sT : TypeId)
    (ho : o.op = .call { callee := .builtin .copy, args := #[d, s], argTypes := #[dT, sT] }) (elem : TypeId) (k : Nat) (hu : P.underlying dT = some (.slice elem)) (hsz : (P.info? elem).map (·.size) = some k)
    (g off dLen dCap : Nat) (ad : Addr) (sLen sCap : Nat) (hd : a.eval d = .slice (some ⟨g, off, none⟩) dLen dCap) (hs : a.eval s = .slice (some ad) sLen sCap)
    (cur : Array Value) (t : TypeId) (hg : w.heap[g]? = some (.cells cur t (0, 0))) (cs : List Value) (hn : cs.length = Nat.min sLen dLen * k)
    (hsrc : ∀ j v, cs[j]? = some v → w.cell? (ad.add j) = some v) (hfit : off + cs.length ≤ cur.size) (h1 : ∀ v ∈ cs, v.oneCell' = true)
    (h : ∀ w', w'.heap[g]? = some (.cells (splice cur.toList off cs).toArray t (0, 0)) → (∀ k, k ≠ g → w'.heap[k]? = w.heap[k]?) → w'.heap.size = w.heap.size → Below g w w' → K (a.put o.dst (goInt (Nat.min sLen dLen))) w') : o.wp P a w K Q := by
  have hrun := run_copyRowK (P := P) w dT sT o.type elem k g off dLen dCap ad sLen sCap cur t cs hu hsz hg hn hsrc hfit h1
  unfold Oper.wp
  simp [execOp, ho, resolve, invoke, builtin, hd, hs, hrun, Result.andThen]
  exact h _ (setRow_heap w g cur _ t _ hg) (fun k hk => setRow_other w g k _ hk) (by simp [World.setRow]) (below_setRow (Below.refl _ _) (Nat.le_refl _) _)
end Go.Proofs.Ythehcbbdkiomnaa
end
section

/- slices.Insert at glyphs, whatever place; (*line.Line).Insert. Conditions: rows of their own, apart; sizes. -/
namespace Go.Proofs.Ythehcbbdkiomnaa
open Go.RowKit Go.Lib

def okI (l : List (Int × Int)) (z : Int) : Bool := decide (0 ≤ z) && decide (z ≤ (l.length : Int))
/-- The cluster of what is inserted at a place. -/
def insC (l : List (Int × Int)) (i : Nat) : Int := (l.getD (if i < l.length then i else l.length - 1) (0, 0)).2
def insG (l : List (Int × Int)) (z : Int) (ids : List Int) : List (Int × Int) := if okI l z then l.take z.toNat ++ ((ids.map fun x => (x, insC l z.toNat)) ++ l.drop z.toNat) else l
end Go.Proofs.Ythehcbbdkiomnaa
end
section

/- line.isOrder; (*line.Line).Order; the document's Order. Conditions: a line in memory; as many numbers as the slice says; sizes. -/
namespace Go.Proofs.Ythehcbbdkiomnaa
open Go.RowKit Go.Lib

/-- The numbers from 0 on, below how many they are, each once. -/
def IsOrd (o : List Int) : Prop := (∀ z ∈ o, 0 ≤ z ∧ z < (o.length : Int)) ∧ o.Nodup
instance (o : List Int) : Decidable (IsOrd o) := inferInstanceAs (Decidable (_ ∧ _))
end Go.Proofs.Ythehcbbdkiomnaa
end
section

/- (*line.Line).Join, and the document's Join. Conditions: a line in memory; as many numbers as the slice says; sizes. -/
namespace Go.Proofs.Ythehcbbdkiomnaa
open Go.RowKit Go.Lib

/-- The least cluster of one, and of some places' glyphs. -/
def joinC (l : List (Int × Int)) (c : Int) (ks : List Int) : Int := ks.foldl (fun c k => if inG l k = true ∧ (atG l k).2 < c then (atG l k).2 else c) c
theorem joinC_nil (l : List (Int × Int)) (c : Int) : joinC l c [] = c := rfl
theorem joinC_snoc (l : List (Int × Int)) (c : Int) (ks : List Int) (j : Nat) (k : Int) (h : ks[j]? = some k) : joinC l c (ks.take (j + 1)) = if inG l k = true ∧ (atG l k).2 < joinC l c (ks.take j) then (atG l k).2 else joinC l c (ks.take j) := by
  rw [List.take_add_one, h]
  show joinC l c (ks.take j ++ [k]) = _
  unfold joinC
  rw [List.foldl_append]
  rfl
theorem joinC_le (l : List (Int × Int)) : ∀ (ks : List Int) (c : Int), joinC l c ks ≤ c
  | [], c => Int.le_refl _
  | k :: ks, c => by
    have := joinC_le l ks (if inG l k = true ∧ (atG l k).2 < c then (atG l k).2 else c)
    unfold joinC at this ⊢
    rw [List.foldl_cons]
    refine Int.le_trans this ?_
    split <;> omega
def joinG (l : List (Int × Int)) (z : Int) (ks : List Int) : List (Int × Int) := if inG l z then l.set z.toNat ((atG l z).1, joinC l (atG l z).2 ks) else l
theorem joinG_length (l : List (Int × Int)) (z : Int) (ks : List Int) : (joinG l z ks).length = l.length := by unfold joinG; split <;> simp
theorem inG_set (l : List (Int × Int)) (i : Nat) (p : Int × Int) (z : Int) : inG (l.set i p) z = inG l z := by simp [inG]
theorem atG_set (l : List (Int × Int)) (i : Nat) (p : Int × Int) (z : Int) (h : z ≠ (i : Nat)) : atG (l.set i p) z = atG l z := by
  rw [atG, atG, inG_set]
  split
  · rename_i hz
    obtain ⟨j, q, rfl, hq⟩ := inG_yes hz
    have hj : i ≠ j := by rintro rfl; exact h rfl
    rw [Int.toNat_natCast, List.getD_eq_getElem?_getD, List.getD_eq_getElem?_getD, List.getElem?_set_ne hj]
  · rfl
set_option maxHeartbeats 3200000 in
set_option maxRecDepth 100000 in
theorem gjoin_any (B g : Nat) (a : Option Addr) (c : Nat) (l : List (Int × Int)) (z : Int) (ai : Option Addr) (m ci : Nat) (ks : List Int) (w : World) (h : GIs B g a c l w) (hi : Has w ai (iv ks)) (hd1 : ∀ p, ai = some p → 0 < m → p.block ≠ g) (hd2 : ∀ p q, ai = some p → a = some q → 0 < m → p.block ≠ q.block) (hil : ks.length = m) (hB : B ≤ g) (hBw : B ≤ w.heap.size) (hn : l.length ≤ 1000000) (hm : m ≤ 1000000) :
    Calls Try.prog 100 #[.pointer (some ⟨g, 0, none⟩), .int .i64 z, .slice ai m ci] w fun e w' => e = .returned (.tuple #[]) ∧ GIs B g a c (joinG l z ks) w' ∧ GStep B g a a w w' := by
  have hAC := allocC
  have hAF := allocF
  have HG := Lib.hid h
  have HH := Lib.hid (ghas_any B g a c l w h z)
  have HS0 := Lib.hid (GStep.of_below (B := B) (g := g) (a := a) (Below.refl w.heap.size w) hBw)
  have HI := Lib.hid hi
  have HIL := Lib.hid hil
  have HD1 := Lib.hid hd1
  have HD2 := Lib.hid hd2
  clear hi hd1 hd2 hil
  cases hin : inG l z with
  | false =>
    have hj : joinG l z ks = l := by rw [joinG, if_neg (by rw [hin]; decide)]
    have HJ := Lib.hid hj
    rw [hin] at HH
    clear h hj hin
    go_enter Try.func100, Try.ntmps100
    go_wp2_with (first | (go_at_call 76; (with_reducible refine HH.out.mono ?_); rintro e w_ ⟨rfl, rfl⟩))
    refine bodyPost_ret (v := .tuple #[]) (by simp [results, Try.results100, go_sem]) rfl ?_
    exact ⟨rfl, by rw [HJ.out]; exact HG.out, HS0.out⟩
  | true =>
    rw [hin] at HH
    obtain ⟨i, p, rfl, hp⟩ := inG_yes hin
    have HJ := Lib.hid (show joinG l (i : Nat) ks = l.set i (p.1, joinC l p.2 ks) by rw [joinG, if_pos hin, atG_of hp, Int.toNat_natCast])
    have hil := (List.getElem?_eq_some_iff.1 hp).1
    obtain ⟨gb, rfl, hBg, hgb, hne, c1, c2, f1, f2, _⟩ := h.glyph hp
    have q0 := cell_of_heap h.hd 0
    simp only [List.getElem?_toArray, List.getElem?_cons_zero] at q0
    have hgw := (Array.getElem?_eq_some_iff.1 h.hd).1
    have HP := Lib.hid hp
    have HST := Lib.hid (show l.set i (p.1, p.2) = l by
      apply List.ext_getElem?
      intro q
      rw [List.getElem?_set]
      by_cases hq : i = q
      · subst hq; rw [if_pos rfl, if_pos hil, hp]
      · rw [if_neg hq])
    obtain ⟨n, hnl⟩ : ∃ n, n = l.length := ⟨_, rfl⟩
    have HN := Lib.hid hnl
    rw [← hnl] at q0 hn hil
    clear h hp hin c1 c2 f1 f2 hnl
    obtain ⟨p1, p2⟩ := p
    simp only at HJ HST
    go_enter Try.func100, Try.ntmps100
    go_wp2_with (first | (go_at_call 76; (with_reducible refine HH.out.mono ?_); rintro e w_ ⟨rfl, rfl⟩))
    go_loopw [23] (fun x wr => ∃ j : Nat, j ≤ m ∧ x = .int .i64 (j : Nat) ∧ GIs B g (some ⟨gb, 0, none⟩) c (l.set i (p1, joinC l p2 (ks.take j))) wr ∧ GStep B g (some ⟨gb, 0, none⟩) (some ⟨gb, 0, none⟩) w wr) (fun x _ => m - (Go.RowKit.intOf x).toNat)
    case atStart => exact ⟨0, Nat.zero_le _, rfl, by rw [List.take_zero, joinC_nil, HST.out]; exact HG.out, HS0.out⟩
    case round =>
      obtain ⟨j, hj, rfl, hg, hs⟩ := hrel
      have HG3 := Lib.hid hg
      have HS3 := Lib.hid hs
      have hwr := hs.below.size
      clear hg hs
      by_cases hlt : j < m
      · obtain ⟨gi, oi, k, rfl, hgi, hk, hci⟩ := iv_at (HS3.out.has HI.out (fun p hp => HD1.out p hp (by omega)) (fun p q hp hq => HD2.out p q hp hq (by omega))) (k := j) (by rw [HIL.out]; exact hlt)
        have HC := Lib.hid (joinC_snoc l p2 ks j k hk)
        have hle := joinC_le l (ks.take j) p2
        obtain ⟨C, hC⟩ : ∃ C, C = joinC l p2 (ks.take j) := ⟨_, rfl⟩
        rw [← hC] at HG3 HC hle
        have hcur : (l.set i (p1, C))[i]? = some (p1, C) := by rw [List.getElem?_set_self (by rw [← HN.out]; exact hil)]
        have HAt := Lib.hid (fun W (hW : Below wr.heap.size wr W) => gat_any B g _ c _ W (HG3.out.below hW) k)
        clear hC hk
        by_cases hki : inG l k = true
        · -- there is a glyph
          obtain ⟨x0, x1, hx, hx2⟩ : ∃ x0 x1, atG (l.set i (p1, C)) k = (x0, x1) ∧ (if x1 < C then x1 else C) = (if inG l k = true ∧ (atG l k).2 < C then (atG l k).2 else C) := by
            by_cases hke : k = (i : Nat)
            · subst hke
              refine ⟨p1, C, atG_of hcur, ?_⟩
              rw [atG_of HP.out, if_neg (by omega), if_neg (by simp; intro _; omega)]
            · refine ⟨(atG l k).1, (atG l k).2, by rw [atG_set _ _ _ _ hke], ?_⟩
              simp [hki]
          rw [← hx2] at HC
          rw [hx, inG_set, hki] at HAt
          simp only [glyphA] at HAt
          obtain ⟨gb', he, _, hgbw, _, e1, e2, ff1, ff2, _, hset⟩ := HG3.out.glyph hcur
          cases he
          have HSET := Lib.hid (fun W (hW : Below wr.heap.size wr W) x => by
            obtain ⟨gb', he, _, _, _, _, _, _, _, _, hset⟩ := (HG3.out.below hW).glyph hcur
            cases he
            have := hset x
            rw [List.set_set] at this
            exact this)
          clear hset hx hx2
          simp only at e2
          by_cases hlx : x1 < C
          · rw [if_pos hlx] at HC
            go_wp2_with (first | (go_at_call 44; (with_reducible refine (HAt.out _ (by exact brefl _)).mono ?_); rintro e w3 ⟨rfl, hb3⟩; have HB3 := Lib.hid hb3; have h3c := bc hb3; have h3f := bf hb3; have h3z := hb3.size; clear hb3))
            obtain ⟨W, hW⟩ : ∃ W, W = w3.alloc (.cells #[.int .i64 x0, .int .i64 x1] 100) := ⟨_, rfl⟩
            have hbW : Below wr.heap.size wr W := by rw [hW]; exact HB3.out.alloc h3z _
            have y1 : W.cell? ⟨w3.heap.size, 1, none⟩ = some (.int .i64 x1) := by rw [hW, hAC, if_pos rfl]; rfl
            have y2 : W.cell? ⟨gb, i * 2 + 1, none⟩ = some (.int .i64 C) := (hbW.cell (p := ⟨gb, i * 2 + 1, none⟩) hgbw).trans e2
            have y3 : W.frozen? ⟨gb, i * 2 + 1, none⟩ = false := (hbW.frozen (p := ⟨gb, i * 2 + 1, none⟩) hgbw).trans ff2
            have hl1 := cell_lt y1
            have hl2 := cell_lt y2
            simp only at hl1 hl2
            have HBW := Lib.hid hbW
            rw [← hW]
            clear hW hbW h3c h3f HB3
            refine wp_region_last (.step 0 (.step 1 (.step 2 (.step 3 (.step 4 (.step 5 (.step 6 (.step 7 (.step 8 (.step 9 (.step 10 .nil))))))))))) 10 (by kernel_rfl) (by kernel_rfl) (by kernel_rfl) (by kernel_rfl) (by kernel_rfl) (by intro _ _ d_ _ _ h_; cases d_ <;> first | exact h_ | (dsimp +zetaDelta only at h_ ⊢; exact h_)) (fun w' => ∃ p : Wld W [], w' = p.val) (wld_start _ _) ?_
            have hG_ := @wldC W
            (refine z_quiet gtA (by rfl) (by rfl) (fun K_ hK_ => ?_); go_big_quiet_op; refine hK_ _ ?_; clear hK_ K_)
            (refine z_quiet gtA (by rfl) (by rfl) (fun K_ hK_ => ?_); go_big_quiet_op; refine hK_ _ ?_; clear hK_ K_)
            (refine z_quiet gtA (by rfl) (by rfl) (fun K_ hK_ => ?_); go_big_quiet_op; refine hK_ _ ?_; clear hK_ K_)
            (refine z_quiet gtA (by rfl) (by rfl) (fun K_ hK_ => ?_); go_big_quiet_op; refine hK_ _ ?_; clear hK_ K_)
            (refine z_quiet gtA (by rfl) (by rfl) (fun K_ hK_ => ?_); go_big_quiet_op; refine hK_ _ ?_; clear hK_ K_)
            (refine z_quiet gtA (by rfl) (by rfl) (fun K_ hK_ => ?_); go_big_quiet_op; refine hK_ _ ?_; clear hK_ K_)
            (refine z_quiet gtA (by rfl) (by rfl) (fun K_ hK_ => ?_); go_big_quiet_op; refine hK_ _ ?_; clear hK_ K_)
            (refine z_quiet gtA (by rfl) (by rfl) (fun K_ hK_ => ?_); go_big_quiet_op; refine hK_ _ ?_; clear hK_ K_)
            (refine z_quiet gtA (by rfl) (by rfl) (fun K_ hK_ => ?_); go_big_quiet_op; refine hK_ _ ?_; clear hK_ K_)
            (refine z_quiet gtA (by rfl) (by rfl) (fun K_ hK_ => ?_); go_big_quiet_op; refine hK_ _ ?_; clear hK_ K_)
            (refine z_last gtA (by rfl) (by rfl) (by rfl) (fun K_ hK_ => ?_); have HK_ := Lib.hid hK_; clear hK_; go_wp2_with (fail); refine HK_.out _ _ ?_; clear HK_)
            refine z_nil ?_
            clear hG_
            go_wp2_with fail
            go_roundw
            case rel => exact ⟨j + 1, hlt, by go_num, by rw [HC.out]; exact HSET.out _ HBW.out.drew _, (HS3.out.trans (GStep.of_below HBW.out.drew (by omega))).trans (GStep.set _ rfl hBg)⟩
            case measure => simp [Go.RowKit.intOf]; omega
          · rw [if_neg hlx] at HC
            go_wp2_with (first | (go_at_call 44; (with_reducible refine (HAt.out _ (by exact brefl _)).mono ?_); rintro e w3 ⟨rfl, hb3⟩; have HB3 := Lib.hid hb3; have h3c := bc hb3; have h3f := bf hb3; have h3z := hb3.size; clear hb3))
            obtain ⟨W, hW⟩ : ∃ W, W = w3.alloc (.cells #[.int .i64 x0, .int .i64 x1] 100) := ⟨_, rfl⟩
            have hbW : Below wr.heap.size wr W := by rw [hW]; exact HB3.out.alloc h3z _
            have y1 : W.cell? ⟨w3.heap.size, 1, none⟩ = some (.int .i64 x1) := by rw [hW, hAC, if_pos rfl]; rfl
            have y2 : W.cell? ⟨gb, i * 2 + 1, none⟩ = some (.int .i64 C) := (hbW.cell (p := ⟨gb, i * 2 + 1, none⟩) hgbw).trans e2
            have y3 : W.frozen? ⟨gb, i * 2 + 1, none⟩ = false := (hbW.frozen (p := ⟨gb, i * 2 + 1, none⟩) hgbw).trans ff2
            have hl1 := cell_lt y1
            have hl2 := cell_lt y2
            simp only at hl1 hl2
            have HBW := Lib.hid hbW
            rw [← hW]
            clear hW hbW h3c h3f HB3
            refine wp_region_last (.step 0 (.step 1 (.step 2 (.step 3 (.step 4 (.step 5 (.step 6 (.step 7 (.step 8 (.step 9 (.step 10 .nil))))))))))) 10 (by kernel_rfl) (by kernel_rfl) (by kernel_rfl) (by kernel_rfl) (by kernel_rfl) (by intro _ _ d_ _ _ h_; cases d_ <;> first | exact h_ | (dsimp +zetaDelta only at h_ ⊢; exact h_)) (fun w' => ∃ p : Wld W [], w' = p.val) (wld_start _ _) ?_
            have hG_ := @wldC W
            (refine z_quiet gtA (by rfl) (by rfl) (fun K_ hK_ => ?_); go_big_quiet_op; refine hK_ _ ?_; clear hK_ K_)
            (refine z_quiet gtA (by rfl) (by rfl) (fun K_ hK_ => ?_); go_big_quiet_op; refine hK_ _ ?_; clear hK_ K_)
            (refine z_quiet gtA (by rfl) (by rfl) (fun K_ hK_ => ?_); go_big_quiet_op; refine hK_ _ ?_; clear hK_ K_)
            (refine z_quiet gtA (by rfl) (by rfl) (fun K_ hK_ => ?_); go_big_quiet_op; refine hK_ _ ?_; clear hK_ K_)
            (refine z_quiet gtA (by rfl) (by rfl) (fun K_ hK_ => ?_); go_big_quiet_op; refine hK_ _ ?_; clear hK_ K_)
            (refine z_quiet gtA (by rfl) (by rfl) (fun K_ hK_ => ?_); go_big_quiet_op; refine hK_ _ ?_; clear hK_ K_)
            (refine z_quiet gtA (by rfl) (by rfl) (fun K_ hK_ => ?_); go_big_quiet_op; refine hK_ _ ?_; clear hK_ K_)
            (refine z_quiet gtA (by rfl) (by rfl) (fun K_ hK_ => ?_); go_big_quiet_op; refine hK_ _ ?_; clear hK_ K_)
            (refine z_quiet gtA (by rfl) (by rfl) (fun K_ hK_ => ?_); go_big_quiet_op; refine hK_ _ ?_; clear hK_ K_)
            (refine z_quiet gtA (by rfl) (by rfl) (fun K_ hK_ => ?_); go_big_quiet_op; refine hK_ _ ?_; clear hK_ K_)
            (refine z_last gtA (by rfl) (by rfl) (by rfl) (fun K_ hK_ => ?_); have HK_ := Lib.hid hK_; clear hK_; go_wp2_with (fail); refine HK_.out _ _ ?_; clear HK_)
            refine z_nil ?_
            clear hG_
            go_wp2_with fail
            go_roundw
            case rel => exact ⟨j + 1, hlt, by go_num, by rw [HC.out]; exact HSET.out _ HBW.out.drew _, (HS3.out.trans (GStep.of_below HBW.out.drew (by omega))).trans (GStep.set _ rfl hBg)⟩
            case measure => simp [Go.RowKit.intOf]; omega
        · have hki' : inG l k = false := by simpa using hki
          rw [if_neg (fun e => hki e.1)] at HC
          rw [inG_set, hki'] at HAt
          obtain ⟨x0, x1, hx⟩ : ∃ x0 x1, atG (l.set i (p1, C)) k = (x0, x1) := ⟨_, _, rfl⟩
          rw [hx] at HAt
          simp only [glyphA] at HAt
          clear hki hki' hx
          go_wp2_with (first | (go_at_call 44; (with_reducible refine (HAt.out _ (by exact brefl _)).mono ?_); rintro e w3 ⟨rfl, hb3⟩; have HB3 := Lib.hid hb3; clear hb3))
          go_roundw
          case rel =>
            have hb := HB3.out.alloc HB3.out.size (.cells #[.int .i64 x0, .int .i64 x1] 100)
            refine ⟨j + 1, hlt, by go_num, by rw [HC.out]; exact HG3.out.below hb, HS3.out.trans (GStep.of_below hb (by omega))⟩
          case measure => simp [Go.RowKit.intOf]; omega
      · obtain rfl : m = j := by omega
        go_wp2_with fail
        go_end0
        refine ⟨rfl, ?_, HS3.out⟩
        have := HG3.out
        rw [List.take_of_length_le (Nat.le_of_eq HIL.out)] at this
        rw [HJ.out]
        exact this
end Go.Proofs.Ythehcbbdkiomnaa
end
section

/- (*line.Line).Insert. Conditions: a line in memory; as many numbers as the slice says; sizes. -/
namespace Go.Proofs.Ythehcbbdkiomnaa
open Go.RowKit Go.Lib

end Go.Proofs.Ythehcbbdkiomnaa
end
section

/- What an argument of glyphs, and one of numbers, is. No condition. -/
namespace Go.Proofs.Ythehcbbdkiomnaa
open Go.ChangeShapes Go.WideShapes Go.ChangeAt Go.RowKit

section
variable {H : Type} {enc : TypeId × Value → H}
set_option maxRecDepth 100000 in
theorem open_ids {W : World} {base : Nat} {v : Value} {d : DataW H} {p : List MemPlace} (hv : Value.okWide Try.prog W .any base 23 v) (h : DataW.Trod enc Try.prog W 0 (fun _ => true) true 23 v d p) :
    ∃ (a : Option Addr) (n c : Nat) (zs : List Int), v = .slice a n c ∧ zs.length = n ∧ n ≤ c ∧ c ≤ maxLen ∧ (a = none → c = 0) ∧ Has W a (iv zs) ∧ ∀ z ∈ zs, -9223372036854775808 ≤ z ∧ z ≤ 9223372036854775807 := by
  obtain ⟨a, n, c, zs, h1, h2, h3, h4, h5, h6, h7⟩ := open_nums Try.underlying23 Try.underlying3 hv h
  exact ⟨a, n, c, zs, h1, h2, h3, h4, h5, h6, fun z hz => wf_i64 (h7 z hz)⟩
end
end Go.Proofs.Ythehcbbdkiomnaa
end
