/- Joined from: GBase GOps IV GNew GIns GIns2 GOrd GJoin GIns3 GFrame. -/
import Derived.Test.YtbicnkopmamnpaaJ01
import Derived.Test.YtbicnkopmamnpaaJ04
import Derived.Laws.CopyRow
import Derived.Laws.CopyOwn
import Derived.Lib.AppendZerosOnto
import Derived.Deep.AppendSrc
import Derived.Lib.Overlaps
import Derived.Lib.JoinLaws
import Derived.Laws.Externs
import Derived.ChangeSame
import Derived.Deep.Strs
section

/- Glyphs as cells; copy between rows of elements of more cells than one; a line in memory. Conditions: sizes, as the lemmas say. -/
namespace Go.Proofs.Ytbicnkopmamnpaa
open Go.RowKit

def gv (l : List (Int × Int)) : List Value := l.flatMap fun g => [.int .i64 g.1, .int .i64 g.2]
theorem gv_nil : gv [] = [] := rfl
theorem gv_cons (g : Int × Int) (l : List (Int × Int)) : gv (g :: l) = .int .i64 g.1 :: .int .i64 g.2 :: gv l := rfl
theorem gv_length : ∀ l, (gv l).length = l.length * 2
  | [] => rfl
  | g :: l => by rw [gv_cons, List.length_cons, List.length_cons, gv_length l, List.length_cons]; omega
theorem gv_append (a b : List (Int × Int)) : gv (a ++ b) = gv a ++ gv b := by simp [gv]
theorem gv_take : ∀ (l : List (Int × Int)) (k : Nat), gv (l.take k) = (gv l).take (k * 2)
  | [], k => by simp [gv_nil]
  | g :: l, 0 => by simp [gv_nil]
  | g :: l, k + 1 => by rw [List.take_succ_cons, gv_cons, gv_cons, gv_take l k, show (k + 1) * 2 = k * 2 + 1 + 1 by omega, List.take_succ_cons, List.take_succ_cons]
theorem gv_one (l : List (Int × Int)) : ∀ u ∈ gv l, u.oneCell' = true := by
  intro u hu
  simp only [gv, List.mem_flatMap, List.mem_cons, List.not_mem_nil, or_false] at hu
  obtain ⟨g, _, rfl | rfl⟩ := hu <;> rfl
theorem gv_fst : ∀ {l : List (Int × Int)} {j : Nat} {g : Int × Int}, l[j]? = some g → (gv l)[j * 2]? = some (.int .i64 g.1)
  | [], j, g, h => by simp at h
  | x :: l, 0, g, h => by simp at h; subst h; rfl
  | x :: l, j + 1, g, h => by
    rw [gv_cons, show (j + 1) * 2 = j * 2 + 1 + 1 by omega, List.getElem?_cons_succ, List.getElem?_cons_succ]
    exact gv_fst (by simpa using h)
theorem gv_snd : ∀ {l : List (Int × Int)} {j : Nat} {g : Int × Int}, l[j]? = some g → (gv l)[j * 2 + 1]? = some (.int .i64 g.2)
  | [], j, g, h => by simp at h
  | x :: l, 0, g, h => by simp at h; subst h; rfl
  | x :: l, j + 1, g, h => by
    rw [gv_cons, show (j + 1) * 2 + 1 = j * 2 + 1 + 1 + 1 by omega, List.getElem?_cons_succ, List.getElem?_cons_succ]
    exact gv_snd (by simpa using h)
theorem gv_set : ∀ (l : List (Int × Int)) (j : Nat) (x y : Int), ((gv l).set (j * 2) (.int .i64 x)).set (j * 2 + 1) (.int .i64 y) = gv (l.set j (x, y))
  | [], j, x, y => by simp [gv_nil]
  | g :: l, 0, x, y => rfl
  | g :: l, j + 1, x, y => by
    rw [gv_cons, show (j + 1) * 2 = j * 2 + 1 + 1 by omega, List.set_cons_succ, List.set_cons_succ, List.set_cons_succ, List.set_cons_succ, gv_set l j x y, List.set_cons_succ, gv_cons]
theorem gv_set1 : ∀ (l : List (Int × Int)) (j : Nat) (x : Int) (g : Int × Int), l[j]? = some g → (gv l).set (j * 2) (.int .i64 x) = gv (l.set j (x, g.2))
  | [], j, x, g, h => by simp at h
  | g :: l, 0, x, g', h => by simp at h; subst h; rfl
  | g :: l, j + 1, x, g', h => by
    rw [gv_cons, show (j + 1) * 2 = j * 2 + 1 + 1 by omega, List.set_cons_succ, List.set_cons_succ, gv_set1 l j x g' (by simpa using h), List.set_cons_succ, gv_cons]
theorem gv_set2 : ∀ (l : List (Int × Int)) (j : Nat) (x : Int) (g : Int × Int), l[j]? = some g → (gv l).set (j * 2 + 1) (.int .i64 x) = gv (l.set j (g.1, x))
  | [], j, x, g, h => by simp at h
  | g :: l, 0, x, g', h => by simp at h; subst h; rfl
  | g :: l, j + 1, x, g', h => by
    rw [gv_cons, show (j + 1) * 2 + 1 = j * 2 + 1 + 1 + 1 by omega, List.set_cons_succ, List.set_cons_succ, gv_set2 l j x g' (by simpa using h), List.set_cons_succ, gv_cons]
theorem info_glyph : (Try.prog.info? 130).map (fun i => (i.zero, i.size, i.bytes)) = some (some (.agg #[.int .i64 0, .int .i64 0]), 2, 16) := by kernel_rfl
theorem made_glyph (n : Nat) : (madeCells (Value.agg #[.int .i64 0, .int .i64 0]).cells (n * 2)).toList = gv (List.replicate n (0, 0)) := by
  apply List.ext_getElem
  · simp [madeCells, gv_length]
  · intro i h1 h2
    have hlt : i < n * 2 := by rw [gv_length, List.length_replicate] at h2; exact h2
    have hd : i / 2 < n := by omega
    have hg : (List.replicate n ((0 : Int), (0 : Int)))[i / 2]? = some (0, 0) := by rw [List.getElem?_replicate, if_pos hd]
    have hr : (gv (List.replicate n (0, 0)))[i]? = some (.int .i64 0) := by
      rcases Nat.mod_two_eq_zero_or_one i with h | h
      · have := gv_fst hg; rwa [show i / 2 * 2 = i by omega] at this
      · have := gv_snd hg; rwa [show i / 2 * 2 + 1 = i by omega] at this
    rw [List.getElem?_eq_getElem h2] at hr
    rw [Option.some.inj hr]
    simp only [madeCells, Array.getElem_toList, Array.getElem_ofFn, Value.cells]
    rcases Nat.mod_two_eq_zero_or_one i with h | h <;> simp [h]

/-- A line in memory: a block of its own, and glyphs of its own. -/
structure GIs (B g : Nat) (a : Option Addr) (c : Nat) (l : List (Int × Int)) (w : World) : Prop where
  hd : w.heap[g]? = some (.cells #[.slice a l.length c] 144 (0, 0))
  row : w.ownsRow B 130 2 (.slice a l.length c) l.length (gv l)
/-- What a change of a line may touch: its block, and its glyphs'. -/
structure GStep (B g : Nat) (a a' : Option Addr) (w w' : World) : Prop where
  below : Below B w w'
  keep : ∀ k, k < w.heap.size → k ≠ g → some k ≠ a.map (·.block) → w'.heap[k]? = w.heap[k]?
  new : ∀ k, a'.map (·.block) = some k → a.map (·.block) = some k ∨ w.heap.size ≤ k
theorem GIs.below {B g : Nat} {a : Option Addr} {c : Nat} {l : List (Int × Int)} {w w' : World} (h : GIs B g a c l w) (hb : Below w.heap.size w w') : GIs B g a c l w' :=
  ⟨(hb.block g (Array.getElem?_eq_some_iff.1 h.hd).1).trans h.hd, owns_below h.row hb (Nat.le_refl _)⟩
theorem GIs.mono {B B' g : Nat} {a : Option Addr} {c : Nat} {l : List (Int × Int)} {w : World} (h : GIs B g a c l w) (hb : B' ≤ B) : GIs B' g a c l w := ⟨h.hd, owns_mono h.row hb⟩
theorem GStep.of_below {B g : Nat} {a : Option Addr} {w w' : World} (h : Below w.heap.size w w') (hB : B ≤ w.heap.size) : GStep B g a a w w' := ⟨h.mono hB, fun k hk _ _ => h.block k hk, fun _ h => .inl h⟩
theorem GStep.trans {B g : Nat} {a b c : Option Addr} {w1 w2 w3 : World} (h : GStep B g a b w1 w2) (k : GStep B g b c w2 w3) : GStep B g a c w1 w3 :=
  ⟨h.below.trans k.below, fun x hx hg ha => by
    have hs := h.below.size
    rw [k.keep x (by omega) hg (fun e => by rcases h.new x e.symm with e | e; exact ha e.symm; omega), h.keep x hx hg ha],
   fun x hx => by
    have hs := h.below.size
    rcases k.new x hx with e | e
    · exact h.new x e
    · exact .inr (by omega)⟩
theorem GIs.slice {B g : Nat} {a : Option Addr} {c : Nat} {l : List (Int × Int)} {w : World} (h : GIs B g a c l w) : l.length ≤ c ∧ c ≤ maxLen ∧ (a = none → c = 0) := by
  obtain ⟨a', c', he, h1, h2, h3⟩ := owns_slice h.row
  injection he with e1 e2 e3
  subst e1 e3
  exact ⟨h1, h2, h3⟩
theorem GIs.has {B g : Nat} {a : Option Addr} {c : Nat} {l : List (Int × Int)} {w : World} (h : GIs B g a c l w) : Has w a (gv l) := has_of_owns h.row
end Go.Proofs.Ytbicnkopmamnpaa
end
section

/- Contracts of package line's small functions: Clone at glyphs, New, Of, Len, Glyphs, has, At, Set. Conditions: a line in memory; sizes. -/
namespace Go.Proofs.Ytbicnkopmamnpaa
open Go.RowKit Go.Lib

theorem GIs.glyph {B g : Nat} {a : Option Addr} {c : Nat} {l : List (Int × Int)} {w : World} (h : GIs B g a c l w) {j : Nat} {p : Int × Int} (hj : l[j]? = some p) :
    ∃ gb, a = some ⟨gb, 0, none⟩ ∧ B ≤ gb ∧ gb < w.heap.size ∧ gb ≠ g ∧ w.cell? ⟨gb, j * 2, none⟩ = some (.int .i64 p.1) ∧ w.cell? ⟨gb, j * 2 + 1, none⟩ = some (.int .i64 p.2) ∧ w.frozen? ⟨gb, j * 2, none⟩ = false ∧ w.frozen? ⟨gb, j * 2 + 1, none⟩ = false ∧
      (∀ x, GIs B g a c (l.set j (x, p.2)) (w.setCell ⟨gb, j * 2, none⟩ (.int .i64 x))) ∧ (∀ x, GIs B g a c (l.set j (p.1, x)) (w.setCell ⟨gb, j * 2 + 1, none⟩ (.int .i64 x))) := by
  have hlt : j < l.length := (List.getElem?_eq_some_iff.1 hj).1
  obtain ⟨gb, cs, u, rfl, hB, hh, hc, _, hf, hs⟩ := row_at h.row (j * 2) (by omega)
  obtain ⟨gb', cs', u', ha', _, hh', hc', _, hf', hs'⟩ := row_at h.row (j * 2 + 1) (by omega)
  cases ha'
  have hne : gb ≠ g := by
    rintro rfl
    rw [h.hd] at hh
    injection hh with hh
    injection hh with _ h2 _
    exact absurd h2 (by decide)
  have e1 := h.row.cellAt (j * 2) (by omega)
  have e2 := h.row.cellAt (j * 2 + 1) (by omega)
  rw [gv_fst hj] at e1
  rw [gv_snd hj] at e2
  refine ⟨gb, rfl, hB, (Array.getElem?_eq_some_iff.1 hh).1, hne, e1, e2, hf, hf', fun x => ?_, fun x => ?_⟩
  · refine ⟨by rw [set_heap_other _ (Ne.symm hne), List.length_set]; exact h.hd, ?_⟩
    have := hs (.int .i64 x)
    rw [gv_set1 l j x p hj] at this
    rwa [List.length_set]
  · refine ⟨by rw [set_heap_other _ (Ne.symm hne), List.length_set]; exact h.hd, ?_⟩
    have := hs' (.int .i64 x)
    rw [gv_set2 l j x p hj] at this
    rwa [List.length_set]
theorem eqg_nil (w : World) (n c : Nat) : (binOp .eql 54 (.slice none n c) (.slice none 0 0)).run Try.prog w = .ok (.bool true) w := by kernel_rfl
theorem eqg_some (w : World) (p : Addr) (n c : Nat) : (binOp .eql 54 (.slice (some p) n c) (.slice none 0 0)).run Try.prog w = .ok (.bool false) w := by kernel_rfl
/-- A slice of glyphs of the call's own. -/
def GRow (B : Nat) (l : List (Int × Int)) (v : Value) (w : World) : Prop := ∃ a c, v = .slice a l.length c ∧ w.ownsRow B 130 2 (.slice a l.length c) l.length (gv l)
theorem GRow.below {B : Nat} {l : List (Int × Int)} {v : Value} {w w' : World} (h : GRow B l v w) (hb : Below w.heap.size w w') : GRow B l v w' := by
  obtain ⟨a, c, h1, h2⟩ := h
  exact ⟨a, c, h1, owns_below h2 hb (Nat.le_refl _)⟩
theorem GRow.lit (w : World) (l : List (Int × Int)) (B : Nat) (hB : B ≤ w.heap.size) (hl : l.length ≤ maxLen) (cs : Array Value) (hc : cs.toList = gv l) : GRow B l (.slice (some ⟨w.heap.size, 0, none⟩) l.length l.length) (w.alloc (.cells cs 130)) := by
  refine ⟨_, _, rfl, ?_⟩
  have := World.ownsRow_lit (e := 130) (size := 2) w cs l.length hB hl (by rw [← Array.length_toList, hc, gv_length])
  rwa [hc] at this
theorem wpAppG {w : World} {ops : Array Oper} {rest : List Oper} {o : Oper} {a : Act} {Q : Exit → Act → World → Prop} (hgd : o.guard = none) (s x : Operand)
    (ho : o.op = .call { callee := .builtin .append, args := #[s, x], argTypes := #[54, 54] }) (B : Nat) (v : Value) (l m : List (Int × Int)) (hs : a.eval s = v) (hown : GRow B l v w)
    (A : Option Addr) (k c : Nat) (hx : a.eval x = .slice A k c) (hk : m.length = k) (hh : Has w A (gv m)) (hA : A = none → c = 0) (hsz : l.length + k ≤ 100000000) (hB : B ≤ w.heap.size)
    (h' : ∀ a' c' w', GRow B (l ++ m) (.slice a' (l.length + k) c') w' → Below B w w' → w.grownBy w' v.ownBlock → wpList Try.prog ops Q rest (a.put o.dst (.slice a' (l.length + k) c')) w') : wpList Try.prog ops Q (o :: rest) a w := by
  obtain ⟨a0, c0, rfl, ho0⟩ := hown
  refine wpApp hgd s x 54 ho B 130 (.agg #[.int .i64 0, .int .i64 0]) 2 16 Try.underlying54 info_glyph rfl (by decide) _ l.length (gv l) hs ho0 A k c (gv m) hx (by rw [gv_length, hk]) hh hA (gv_one m) (by unfold maxLen; omega) (by omega) hB ?_
  intro a1 c1 w1 hown k1 k2 k3 hb1 hg1
  refine h' a1 c1 w1 ⟨a1, c1, by rw [List.length_append, hk], ?_⟩ hb1 hg1
  rw [gv_append, List.length_append, hk]
  exact hown

set_option maxHeartbeats 800000 in
theorem gclone_any (a : Option Addr) (n c : Nat) (l : List (Int × Int)) (w : World) (h : Has w a (gv l)) (hl : l.length = n) (hn : n ≤ 1000000) :
    Calls Try.prog 77 #[.slice a n c] w fun e w' => ∃ a' c', e = .returned (.slice a' n c') ∧ w'.ownsRow w.heap.size 130 2 (.slice a' n c') n (gv l) ∧ n ≤ c' ∧ c' ≤ maxLen ∧ (a' = none → c' = 0) ∧ Below w.heap.size w w' := by
  have HH := Lib.hid h
  have HL := Lib.hid hl
  have hE0 := eqg_nil
  have hE1 := eqg_some
  clear h hl
  cases a with
  | none =>
    go_enter Try.func77, Try.ntmps77
    go_wp2
    go_ret
    have h0 : l = [] := by
      rcases l with _ | ⟨b, bs⟩
      · rfl
      · obtain ⟨p, hp, _⟩ := HH.out 0 (.int .i64 b.1) (by simp [gv_cons])
        cases hp
    have hl := HL.out
    subst h0
    obtain rfl : n = 0 := by simpa using hl.symm
    exact ⟨none, 0, rfl, World.ownsRow_nil _ _ _ _, Nat.le_refl _, Nat.zero_le _, fun _ => rfl, brefl _⟩
  | some p =>
    go_enter Try.func77, Try.ntmps77
    go_wp2_with (at_builtin; refine wpApp rfl _ _ 54 rfl w.heap.size 130 (.agg #[.int .i64 0, .int .i64 0]) 2 16 Try.underlying54 info_glyph rfl (by decide) _ 0 [] rfl (World.ownsRow_lit w #[] 0 (Nat.le_refl _) (by decide) rfl) (some p) n c (gv l) rfl (by rw [gv_length, HL.out]) (HH.out.below (balloc (brefl _) _)) (fun h => by cases h) (gv_one l) (by unfold maxLen; omega) (by omega) (by simp) ?_; intro a1 c1 w1 hown k1 k2 k3 hb1 _; have HO := Lib.hid hown; clear hown)
    go_ret
    have e0 : 0 + n = n := Nat.zero_add n
    exact ⟨a1, c1, by rw [← e0]; rfl, by simpa using HO.out, by omega, k2, k3, (balloc (brefl _) _).trans hb1⟩

set_option maxHeartbeats 800000 in
theorem glen_any (B g : Nat) (a : Option Addr) (c : Nat) (l : List (Int × Int)) (w : World) (h : GIs B g a c l w) :
    Calls Try.prog 117 #[.pointer (some ⟨g, 0, none⟩)] w fun e w' => e = .returned (.int .i64 (l.length : Nat)) ∧ w = w' := by
  have q0 := cell_of_heap h.hd 0
  simp only [List.getElem?_toArray, List.getElem?_cons_zero] at q0
  clear h
  generalize l.length = n at *
  go_enter Try.func117, Try.ntmps117
  go_wp2_with fail
  go_ret
  exact ⟨rfl, rfl⟩
set_option maxHeartbeats 800000 in
theorem gglyphs_any (B g : Nat) (a : Option Addr) (c : Nat) (l : List (Int × Int)) (w : World) (h : GIs B g a c l w) (hn : l.length ≤ 1000000) :
    Calls Try.prog 24 #[.pointer (some ⟨g, 0, none⟩)] w fun e w' => ∃ a' c', e = .returned (.slice a' l.length c') ∧ w'.ownsRow w.heap.size 130 2 (.slice a' l.length c') l.length (gv l) ∧ l.length ≤ c' ∧ c' ≤ maxLen ∧ (a' = none → c' = 0) ∧ Below w.heap.size w w' := by
  have HC := Lib.hid (gclone_any a l.length c l w h.has rfl hn)
  have q0 := cell_of_heap h.hd 0
  simp only [List.getElem?_toArray, List.getElem?_cons_zero] at q0
  clear h
  generalize l.length = n at *
  go_enter Try.func24, Try.ntmps24
  go_wp2_with (go_at_call 77; refine HC.out.mono ?_; rintro e w1 ⟨a1, c1, rfl, hown, k1, k2, k3, hb1⟩; have HO := Lib.hid hown; clear hown)
  go_ret
  exact ⟨a1, c1, rfl, HO.out, k1, k2, k3, hb1⟩
def inG (l : List (Int × Int)) (z : Int) : Bool := decide (0 ≤ z) && decide (z < (l.length : Int))
set_option maxHeartbeats 800000 in
theorem ghas_any (B g : Nat) (a : Option Addr) (c : Nat) (l : List (Int × Int)) (w : World) (h : GIs B g a c l w) (z : Int) :
    Calls Try.prog 124 #[.pointer (some ⟨g, 0, none⟩), .int .i64 z] w fun e w' => e = .returned (.bool (inG l z)) ∧ w = w' := by
  have q0 := cell_of_heap h.hd 0
  simp only [List.getElem?_toArray, List.getElem?_cons_zero] at q0
  unfold inG
  clear h
  generalize l.length = n at *
  by_cases h0 : 0 ≤ z
  · have d0 : decide (0 ≤ z) = true := by simpa using h0
    rw [d0, Bool.true_and]
    clear h0
    go_enter Try.func124, Try.ntmps124
    go_wp2_with fail
    go_ret
    exact ⟨rfl, rfl⟩
  · have d0 : decide (0 ≤ z) = false := by simpa using h0
    rw [d0, Bool.false_and]
    clear h0
    go_enter Try.func124, Try.ntmps124
    go_wp2_with fail
    go_ret
    exact ⟨rfl, rfl⟩
theorem inG_yes {l : List (Int × Int)} {z : Int} (h : inG l z = true) : ∃ (j : Nat) (p : Int × Int), z = (j : Nat) ∧ l[j]? = some p := by
  simp only [inG, Bool.and_eq_true, decide_eq_true_eq] at h
  exact ⟨z.toNat, _, by omega, List.getElem?_eq_getElem (by omega)⟩
theorem inG_of {l : List (Int × Int)} {j : Nat} {p : Int × Int} (h : l[j]? = some p) : inG l (j : Nat) = true := by
  have := (List.getElem?_eq_some_iff.1 h).1
  simp only [inG, Bool.and_eq_true, decide_eq_true_eq]
  omega
def atG (l : List (Int × Int)) (z : Int) : Int × Int := if inG l z then l.getD z.toNat (0, 0) else (0, 0)
theorem atG_of {l : List (Int × Int)} {j : Nat} {p : Int × Int} (h : l[j]? = some p) : atG l (j : Nat) = p := by
  rw [atG, if_pos (inG_of h), Int.toNat_natCast, List.getD_eq_getElem?_getD, h]
  rfl
def glyphA (p : Int × Int) : Value := .agg #[.int .i64 p.1, .int .i64 p.2]
set_option maxHeartbeats 800000 in
theorem gat_any (B g : Nat) (a : Option Addr) (c : Nat) (l : List (Int × Int)) (w : World) (h : GIs B g a c l w) (z : Int) :
    Calls Try.prog 84 #[.pointer (some ⟨g, 0, none⟩), .int .i64 z] w fun e w' => e = .returned (.tuple #[glyphA (atG l z), .bool (inG l z)]) ∧ Below w.heap.size w w' := by
  have hAC := allocC
  have hAF := allocF
  cases hin : inG l z with
  | false =>
    have hat : atG l z = (0, 0) := by rw [atG, if_neg (by rw [hin]; decide)]
    have HA := Lib.hid (fun W (hW : Below w.heap.size w W) => ghas_any B g a c l W (h.below hW) z)
    rw [hin] at HA
    rw [hat]
    clear hat h hin
    go_enter Try.func84, Try.ntmps84
    go_wp2_with (first | (go_at_call 124; (with_reducible refine (HA.out _ (by exact blw)).mono ?_); rintro e w_ ⟨rfl, rfl⟩))
    refine bodyPost_ret (v := .tuple #[.agg #[.int .i64 0, .int .i64 0], .bool false]) (by simp [results, Try.results84, go_sem, hAC, hAF]) rfl ?_
    exact ⟨rfl, blw⟩
  | true =>
    obtain ⟨j, p, rfl, hj⟩ := inG_yes hin
    rw [atG_of hj]
    have HA := Lib.hid (fun W (hW : Below w.heap.size w W) => ghas_any B g a c l W (h.below hW) (j : Nat))
    rw [hin] at HA
    obtain ⟨gb, rfl, _, hgb, hne, c1, c2, f1, f2, _⟩ := h.glyph hj
    have q0 := cell_of_heap h.hd 0
    simp only [List.getElem?_toArray, List.getElem?_cons_zero] at q0
    have hlt := (List.getElem?_eq_some_iff.1 hj).1
    have hg := (Array.getElem?_eq_some_iff.1 h.hd).1
    obtain ⟨p1, p2⟩ := p
    simp only [glyphA] at *
    clear h hin hj
    generalize l.length = n at *
    go_enter Try.func84, Try.ntmps84
    go_wp2_with (first | (go_at_call 124; (with_reducible refine (HA.out _ (by exact blw)).mono ?_); rintro e w_ ⟨rfl, rfl⟩))
    refine bodyPost_ret (v := .tuple #[.agg #[.int .i64 p1, .int .i64 p2], .bool true]) (by simp [results, Try.results84, go_sem, hAC, hAF]) rfl ?_
    exact ⟨rfl, blw⟩
theorem GIs.other {B g : Nat} {a : Option Addr} {c : Nat} {l : List (Int × Int)} {w : World} (h : GIs B g a c l w) {k o : Nat} (hk : k ≠ g) (hka : some k ≠ a.map (·.block)) (v : Value) : GIs B g a c l (w.setCell ⟨k, o, none⟩ v) :=
  ⟨by rw [set_heap_other _ (Ne.symm hk)]; exact h.hd, set_owns _ h.row (by cases a with | none => exact fun e => by cases e | some p => exact hka)⟩
end Go.Proofs.Ytbicnkopmamnpaa
end
section

/- Rows of numbers as cells. No condition of its own. -/
namespace Go.Proofs.Ytbicnkopmamnpaa
open Go.RowKit

def iv (ids : List Int) : List Value := ids.map fun z => .int .i64 z
theorem iv_get {ids : List Int} {j : Nat} {z : Int} (h : ids[j]? = some z) : (iv ids)[j]? = some (.int .i64 z) := by simp [iv, List.getElem?_map, h]
theorem iv_length (ids : List Int) : (iv ids).length = ids.length := by simp [iv]
/-- A number of a slice of numbers. -/
theorem iv_at {w : World} {a : Option Addr} {ids : List Int} (h : Has w a (iv ids)) {k : Nat} (hk : k < ids.length) : ∃ g o z, a = some ⟨g, o, none⟩ ∧ g < w.heap.size ∧ ids[k]? = some z ∧ w.cell? ⟨g, o + k, none⟩ = some (.int .i64 z) := by
  obtain ⟨g, o, ha, hg, hx⟩ := h.get (by rw [iv_length]; omega)
  exact ⟨g, o, ids[k], ha, hg, List.getElem?_eq_getElem hk, hx k _ (iv_get (List.getElem?_eq_getElem hk))⟩
end Go.Proofs.Ytbicnkopmamnpaa
end
section

/- Contracts of line.New, and of the document's New, Turn, Clean, Set and Same of glyphs. Conditions: as many cells as the slices say; sizes. -/
namespace Go.Proofs.Ytbicnkopmamnpaa
open Go.RowKit Go.Lib

/-- A glyph of a slice of glyphs. -/
theorem gv_at {w : World} {a : Option Addr} {l : List (Int × Int)} (h : Has w a (gv l)) {k : Nat} (hk : k < l.length) : ∃ g o p, a = some ⟨g, o, none⟩ ∧ g < w.heap.size ∧ l[k]? = some p ∧ w.cell? ⟨g, o + k * 2, none⟩ = some (.int .i64 p.1) ∧ w.cell? ⟨g, o + k * 2 + 1, none⟩ = some (.int .i64 p.2) := by
  obtain ⟨g, o, ha, hg, hx⟩ := h.get (by rw [gv_length]; omega)
  exact ⟨g, o, l[k], ha, hg, List.getElem?_eq_getElem hk, hx _ _ (gv_fst (List.getElem?_eq_getElem hk)), hx _ _ (gv_snd (List.getElem?_eq_getElem hk))⟩
def newG (ids : List Int) : List (Int × Int) := ids.mapIdx fun i z => (z, (i : Int))
theorem newG_length (ids : List Int) : (newG ids).length = ids.length := by simp [newG]
theorem newG_get (ids : List Int) (k : Nat) : (newG ids)[k]? = ids[k]?.map fun z => (z, (k : Int)) := by simp [newG]
def partN (ids : List Int) (k : Nat) : List (Int × Int) := (newG ids).take k ++ List.replicate (ids.length - k) (0, 0)
theorem partN_zero (ids : List Int) : partN ids 0 = List.replicate ids.length (0, 0) := by simp [partN]
theorem partN_all (ids : List Int) : partN ids ids.length = newG ids := by simp [partN, List.take_of_length_le (Nat.le_of_eq (newG_length ids))]
theorem partN_set (ids : List Int) (k : Nat) (z : Int) (h : ids[k]? = some z) : (partN ids k).set k (z, (k : Int)) = partN ids (k + 1) := by
  have hlt := (List.getElem?_eq_some_iff.1 h).1
  have hg : (newG ids)[k]? = some (z, (k : Int)) := by rw [newG_get, h]; rfl
  rw [partN, partN, List.take_add_one, hg, List.set_append, if_neg (by rw [List.length_take, newG_length]; omega)]
  rw [show ids.length - k = ids.length - (k + 1) + 1 by omega, List.replicate_succ]
  rw [List.length_take, newG_length, Nat.min_eq_left (by omega), Nat.sub_self, List.set_cons_zero]
  simp
set_option maxHeartbeats 1600000 in
theorem gnew_any (a : Option Addr) (n c : Nat) (ids : List Int) (w : World) (h : Has w a (iv ids)) (hl : ids.length = n) (hn : n ≤ 1000000) :
    Calls Try.prog 21 #[.slice a n c] w fun e w' => ∃ g a' c', e = .returned (.pointer (some ⟨g, 0, none⟩)) ∧ GIs w.heap.size g a' c' (newG ids) w' ∧ w.heap.size ≤ g ∧ Below w.heap.size w w' := by
  have HH := Lib.hid h
  have HL := Lib.hid hl
  clear h hl
  go_enter Try.func21, Try.ntmps21
  go_wp2_with (refine wpMake w rfl _ _ 54 rfl w.heap.size 130 (.agg #[.int .i64 0, .int .i64 0]) 2 16 Try.underlying54 info_glyph n rfl rfl (by omega) (by unfold maxLen; omega) (Nat.le_refl _) ?_; intro w1 hown hb1; rw [made_glyph] at hown; have HO := Lib.hid hown; clear hown)
  have hz1 := hb1.size
  have HB1 := Lib.hid hb1
  clear hb1
  go_loopw [11] (fun i wr => ∃ j : Nat, j ≤ n ∧ i = .int .i64 (j : Nat) ∧ wr.ownsRow w.heap.size 130 2 (.slice (some ⟨w.heap.size, 0, none⟩) n n) n (gv (partN ids j)) ∧ Below w.heap.size w wr) (fun i _ => n - (Go.RowKit.intOf i).toNat)
  case atStart => exact ⟨0, Nat.zero_le _, rfl, by rw [partN_zero, HL.out]; exact HO.out, HB1.out⟩
  case round =>
    obtain ⟨j, hj, rfl, hx, hb⟩ := hrel
    have HX := Lib.hid hx
    have HB := Lib.hid hb
    clear hx hb
    by_cases hlt : j < n
    · obtain ⟨gi, oi, z, rfl, hgi, hz, hci⟩ := iv_at (HH.out.below HB.out) (k := j) (by rw [HL.out]; exact hlt)
      obtain ⟨g2, cs2, u2, he, _, hh2, hc2, _, f2, hs2⟩ := row_at HX.out (j * 2) (by omega)
      obtain ⟨g3, cs3, u3, he3, _, hh3, hc3, _, f3, hs3⟩ := row_at (hs2 (.int .i64 z)) (j * 2 + 1) (by omega)
      cases he
      cases he3
      have hc3' : ∃ u, wr.cell? ⟨w.heap.size, j * 2 + 1, none⟩ = some u := by
        obtain ⟨_, _, u, he, _, _, hc, _⟩ := row_at HX.out (j * 2 + 1) (by omega)
        cases he
        exact ⟨u, hc⟩
      obtain ⟨u3', hc3'⟩ := hc3'
      have f3' : wr.frozen? ⟨w.heap.size, j * 2 + 1, none⟩ = false := by
        obtain ⟨_, _, u, he, _, _, _, _, hf, _⟩ := row_at HX.out (j * 2 + 1) (by omega)
        cases he
        exact hf
      have hs := hs3 (.int .i64 (j : Nat))
      rw [gv_set, partN_set ids j z hz] at hs
      have HS := Lib.hid hs
      have HB2 := Lib.hid ((HB.out.setCell (p := ⟨w.heap.size, j * 2, none⟩) (Nat.le_refl _) (.int .i64 z)).setCell (p := ⟨w.heap.size, j * 2 + 1, none⟩) (Nat.le_refl _) (.int .i64 (j : Nat)))
      clear hs hs2 hs3 hh2 hh3 hc3 f3 hz
      go_wp2_with fail
      go_roundw
      case rel => exact ⟨j + 1, hlt, by go_num, HS.out, HB2.out⟩
      case measure => simp [Go.RowKit.intOf]; omega
    · obtain rfl : n = j := by omega
      go_wp2_with fail
      go_ret
      have hzr := HB.out.size
      have ho := HX.out
      have hl := HL.out
      refine ⟨wr.heap.size, _, _, rfl, ⟨by rw [newG_length, hl]; exact heap_new _ _ _, ?_⟩, by omega, HB.out.alloc HB.out.size _⟩
      rw [newG_length, hl]
      rw [← hl] at ho ⊢
      rw [partN_all] at ho
      exact ho.alloc _
set_option maxHeartbeats 1600000 in
theorem refNewG_any (a : Option Addr) (n c : Nat) (ids : List Int) (w : World) (h : Has w a (iv ids)) (hl : ids.length = n) (hn : n ≤ 1000000) :
    Calls Try.prog 25 #[.slice a n c] w fun e w' => ∃ a' c', e = .returned (.slice a' n c') ∧ w'.ownsRow w.heap.size 130 2 (.slice a' n c') n (gv (newG ids)) ∧ Below w.heap.size w w' := by
  have HH := Lib.hid h
  have HL := Lib.hid hl
  clear h hl
  go_enter Try.func25, Try.ntmps25
  go_wp2_with fail
  go_loopw [3, 4] (fun v i wr => ∃ j : Nat, j ≤ n ∧ i = .int .i64 (j : Nat) ∧ GRow w.heap.size ((newG ids).take j) v wr ∧ Below w.heap.size w wr) (fun _ i _ => n - (Go.RowKit.intOf i).toNat)
  case atStart => exact ⟨0, Nat.zero_le _, rfl, by rw [List.take_zero]; exact GRow.lit w [] _ (Nat.le_refl _) (Nat.zero_le _) #[] rfl, blw⟩
  case round =>
    obtain ⟨j, hj, rfl, hx, hb⟩ := hrel
    have HX := Lib.hid hx
    have HB := Lib.hid hb
    have hzr := hb.size
    clear hx hb
    by_cases hlt : j < n
    · obtain ⟨gi, oi, z, rfl, hgi, hz, hci⟩ := iv_at (HH.out.below HB.out) (k := j) (by rw [HL.out]; exact hlt)
      have HZ := Lib.hid hz
      clear hz
      obtain ⟨X, hX⟩ : ∃ X, X = (newG ids).take j := ⟨_, rfl⟩
      have hXl : X.length = j := by rw [hX, List.length_take, newG_length, HL.out]; omega
      rw [← hX] at HX
      have HXX := Lib.hid hX
      clear hX
      go_wp2_with (at_builtin; refine wpAppG rfl _ _ rfl w.heap.size _ X [(z, (j : Int))] rfl (HX.out.below (balloc (brefl _) _)) (some ⟨wr.heap.size, 0, none⟩) 1 1 rfl rfl (has_alloc wr _ _) (fun h => by cases h) (by omega) (by simp; omega) ?_; intro a2 c2 w2 hg2 hb2 _; have HG2 := Lib.hid hg2; have HB2 := Lib.hid ((HB.out.alloc HB.out.size _).trans hb2); clear hg2 hb2)
      go_roundw
      case rel =>
        refine ⟨j + 1, hlt, by go_num, ?_, HB2.out⟩
        have := HG2.out
        rw [HXX.out] at this
        rw [List.take_add_one, newG_get, HZ.out]
        simpa [newG_length, HL.out, Nat.min_eq_left hj] using this
      case measure => simp [Go.RowKit.intOf]; omega
    · obtain rfl : n = j := by omega
      have hl := HL.out
      obtain ⟨a1, c1, rfl, ho⟩ := HX.out
      rw [List.take_of_length_le (by rw [newG_length]; omega)] at ho
      rw [List.take_of_length_le (by rw [newG_length]; omega)]
      rw [newG_length, hl] at ho ⊢
      have HO := Lib.hid ho
      clear ho HX
      go_wp2_with fail
      go_ret
      exact ⟨a1, c1, rfl, HO.out, HB.out⟩
set_option maxHeartbeats 1600000 in
theorem refSameG_any (a b : Option Addr) (n c m d : Nat) (l k : List (Int × Int)) (w : World) (h : Has w a (gv l)) (hl : l.length = n) (h2 : Has w b (gv k)) (hk : k.length = m) (hn : n ≤ 1000000) (hm : m ≤ 1000000) :
    Calls Try.prog 23 #[.slice a n c, .slice b m d] w fun e w' => e = .returned (.bool (decide (l = k))) ∧ Below w.heap.size w w' := by
  have HH := Lib.hid h
  have HK := Lib.hid h2
  have HL := Lib.hid hl
  have HKL := Lib.hid hk
  clear h h2 hl hk
  by_cases hnm : n = m
  case neg =>
    have he : decide (l = k) = false := by
      simp only [decide_eq_false_iff_not]
      rintro rfl
      exact hnm (HL.out.symm.trans HKL.out)
    rw [he]
    have hne : ¬ (n : Int) = (m : Int) := by omega
    clear hnm he
    go_enter Try.func23, Try.ntmps23
    go_wp2_with fail
    go_ret
    exact ⟨rfl, blw⟩
  subst hnm
  go_enter Try.func23, Try.ntmps23
  go_wp2_with fail
  go_loopw [5] (fun i wr => ∃ j : Nat, j ≤ n ∧ i = .int .i64 (j : Nat) ∧ l.take j = k.take j ∧ Below w.heap.size w wr) (fun i _ => n - (Go.RowKit.intOf i).toNat)
  case atStart => exact ⟨0, Nat.zero_le _, rfl, by simp, blw⟩
  case round =>
    obtain ⟨j, hj, rfl, hx, hb⟩ := hrel
    have HX := Lib.hid hx
    have HB := Lib.hid hb
    have hzr := hb.size
    clear hx hb
    by_cases hlt : j < n
    · obtain ⟨gi, oi, p, rfl, hgi, hp, hc1, hc2⟩ := gv_at (HH.out.below HB.out) (k := j) (by rw [HL.out]; omega)
      obtain ⟨gk, ok, q, rfl, hgk, hq, hd1, hd2⟩ := gv_at (HK.out.below HB.out) (k := j) (by rw [HKL.out]; omega)
      have HP := Lib.hid hp
      have HQ := Lib.hid hq
      clear hp hq
      obtain ⟨p1, p2⟩ := p
      obtain ⟨q1, q2⟩ := q
      simp only at hc1 hc2 hd1 hd2
      by_cases h6 : p1 = q1 ∧ p2 = q2
      · obtain ⟨rfl, rfl⟩ := h6
        go_wp2_with fail
        refine wp_region_tree (.step 0 (.step 1 (.step 2 (.step 3 (.step 4 (.step 5 (.step 6 (.step 7 (.step 8 .nil))))))))) (by kernel_rfl) (by kernel_rfl) (by kernel_rfl) (by kernel_rfl) (by intro _ _ d_ _ _ h_; cases d_ <;> first | exact h_ | (dsimp +zetaDelta only at h_ ⊢; exact h_)) (fun w' => ∃ p : Wld wr [], w' = p.val) (wld_start _ _) ?_
        have hG_ := @wldC wr
        (refine tree_quiet gtA (by rfl) (by rfl) (fun K_ hK_ => ?_); go_big_quiet_op; refine hK_ _ ?_; clear hK_ K_)
        (refine tree_quiet gtA (by rfl) (by rfl) (fun K_ hK_ => ?_); go_big_quiet_op; refine hK_ _ ?_; clear hK_ K_)
        (refine tree_quiet gtA (by rfl) (by rfl) (fun K_ hK_ => ?_); go_big_quiet_op; refine hK_ _ ?_; clear hK_ K_)
        (refine tree_quiet gtA (by rfl) (by rfl) (fun K_ hK_ => ?_); go_big_quiet_op; refine hK_ _ ?_; clear hK_ K_)
        (refine tree_quiet gtA (by rfl) (by rfl) (fun K_ hK_ => ?_); go_big_quiet_op; refine hK_ _ ?_; clear hK_ K_)
        (refine tree_quiet gtA (by rfl) (by rfl) (fun K_ hK_ => ?_); go_big_quiet_op; refine hK_ _ ?_; clear hK_ K_)
        (refine tree_quiet gtA (by rfl) (by rfl) (fun K_ hK_ => ?_); go_big_quiet_op; refine hK_ _ ?_; clear hK_ K_)
        (refine tree_quiet gtA (by rfl) (by rfl) (fun K_ hK_ => ?_); go_big_quiet_op; refine hK_ _ ?_; clear hK_ K_)
        (refine tree_quiet gtA (by rfl) (by rfl) (fun K_ hK_ => ?_); go_big_quiet_op; refine hK_ _ ?_; clear hK_ K_)
        refine tree_nil ?_
        clear hG_
        go_wp2_with fail
        go_roundw
        case rel => exact ⟨j + 1, hlt, by go_num, by rw [List.take_add_one, List.take_add_one, HX.out, HP.out, HQ.out], HB.out.drew⟩
        case measure => simp [Go.RowKit.intOf]; omega
      · have he : decide (l = k) = false := by
          simp only [decide_eq_false_iff_not]
          intro e
          have h1 := HP.out
          rw [e, HQ.out] at h1
          injection h1 with h1
          injection h1 with h1 h2
          exact h6 ⟨h1.symm, h2.symm⟩
        have HE := Lib.hid he
        clear he
        by_cases h7 : p1 = q1
        · subst h7
          have h8 : ¬ p2 = q2 := fun e => h6 ⟨rfl, e⟩
          clear h6
          go_wp2_with fail
          refine wp_region_tree (.step 0 (.step 1 (.step 2 (.step 3 (.step 4 (.step 5 (.step 6 (.step 7 (.step 8 .nil))))))))) (by kernel_rfl) (by kernel_rfl) (by kernel_rfl) (by kernel_rfl) (by intro _ _ d_ _ _ h_; cases d_ <;> first | exact h_ | (dsimp +zetaDelta only at h_ ⊢; exact h_)) (fun w' => ∃ p : Wld wr [], w' = p.val) (wld_start _ _) ?_
          have hG_ := @wldC wr
          (refine tree_quiet gtA (by rfl) (by rfl) (fun K_ hK_ => ?_); go_big_quiet_op; refine hK_ _ ?_; clear hK_ K_)
          (refine tree_quiet gtA (by rfl) (by rfl) (fun K_ hK_ => ?_); go_big_quiet_op; refine hK_ _ ?_; clear hK_ K_)
          (refine tree_quiet gtA (by rfl) (by rfl) (fun K_ hK_ => ?_); go_big_quiet_op; refine hK_ _ ?_; clear hK_ K_)
          (refine tree_quiet gtA (by rfl) (by rfl) (fun K_ hK_ => ?_); go_big_quiet_op; refine hK_ _ ?_; clear hK_ K_)
          (refine tree_quiet gtA (by rfl) (by rfl) (fun K_ hK_ => ?_); go_big_quiet_op; refine hK_ _ ?_; clear hK_ K_)
          (refine tree_quiet gtA (by rfl) (by rfl) (fun K_ hK_ => ?_); go_big_quiet_op; refine hK_ _ ?_; clear hK_ K_)
          (refine tree_quiet gtA (by rfl) (by rfl) (fun K_ hK_ => ?_); go_big_quiet_op; refine hK_ _ ?_; clear hK_ K_)
          (refine tree_quiet gtA (by rfl) (by rfl) (fun K_ hK_ => ?_); go_big_quiet_op; refine hK_ _ ?_; clear hK_ K_)
          (refine tree_quiet gtA (by rfl) (by rfl) (fun K_ hK_ => ?_); go_big_quiet_op; refine hK_ _ ?_; clear hK_ K_)
          refine tree_nil ?_
          clear hG_
          go_wp2_with fail
          go_ret
          exact ⟨by rw [HE.out]; rfl, HB.out.drew⟩
        · clear h6
          go_wp2_with fail
          refine wp_region_tree (.step 0 (.step 1 (.step 2 (.step 3 (.step 4 (.step 5 (.step 6 (.step 7 (.step 8 .nil))))))))) (by kernel_rfl) (by kernel_rfl) (by kernel_rfl) (by kernel_rfl) (by intro _ _ d_ _ _ h_; cases d_ <;> first | exact h_ | (dsimp +zetaDelta only at h_ ⊢; exact h_)) (fun w' => ∃ p : Wld wr [], w' = p.val) (wld_start _ _) ?_
          have hG_ := @wldC wr
          (refine tree_quiet gtA (by rfl) (by rfl) (fun K_ hK_ => ?_); go_big_quiet_op; refine hK_ _ ?_; clear hK_ K_)
          (refine tree_quiet gtA (by rfl) (by rfl) (fun K_ hK_ => ?_); go_big_quiet_op; refine hK_ _ ?_; clear hK_ K_)
          (refine tree_quiet gtA (by rfl) (by rfl) (fun K_ hK_ => ?_); go_big_quiet_op; refine hK_ _ ?_; clear hK_ K_)
          (refine tree_quiet gtA (by rfl) (by rfl) (fun K_ hK_ => ?_); go_big_quiet_op; refine hK_ _ ?_; clear hK_ K_)
          (refine tree_quiet gtA (by rfl) (by rfl) (fun K_ hK_ => ?_); go_big_quiet_op; refine hK_ _ ?_; clear hK_ K_)
          (refine tree_quiet gtA (by rfl) (by rfl) (fun K_ hK_ => ?_); go_big_quiet_op; refine hK_ _ ?_; clear hK_ K_)
          (refine tree_quiet gtA (by rfl) (by rfl) (fun K_ hK_ => ?_); go_big_quiet_op; refine hK_ _ ?_; clear hK_ K_)
          (refine tree_quiet gtA (by rfl) (by rfl) (fun K_ hK_ => ?_); go_big_quiet_op; refine hK_ _ ?_; clear hK_ K_)
          (refine tree_quiet gtA (by rfl) (by rfl) (fun K_ hK_ => ?_); go_big_quiet_op; refine hK_ _ ?_; clear hK_ K_)
          refine tree_nil ?_
          clear hG_
          go_wp2_with fail
          go_ret
          exact ⟨by rw [HE.out]; rfl, HB.out.drew⟩
    · obtain rfl : n = j := by omega
      have he : decide (l = k) = true := by
        simp only [decide_eq_true_eq]
        have := HX.out
        rwa [List.take_of_length_le (Nat.le_of_eq HL.out), List.take_of_length_le (Nat.le_of_eq HKL.out)] at this
      have HE := Lib.hid he
      clear he HX
      go_wp2_with fail
      go_ret
      exact ⟨by rw [HE.out]; rfl, HB.out⟩
end Go.Proofs.Ytbicnkopmamnpaa
end
section

/- slices.Insert at glyphs, onto a row of the call's own; (*line.Line).Insert. Conditions: rows of their own, apart; a place that is there; sizes. -/
namespace Go.Proofs.Ytbicnkopmamnpaa
open Go.RowKit Go.Lib

/-- What a change of a slice may touch: its own block. -/
structure RStep (B : Nat) (a a' : Option Addr) (w w' : World) : Prop where
  below : Below B w w'
  keep : ∀ k, k < w.heap.size → some k ≠ a.map (·.block) → w'.heap[k]? = w.heap[k]?
  new : ∀ k, a'.map (·.block) = some k → a.map (·.block) = some k ∨ w.heap.size ≤ k
theorem RStep.refl (B : Nat) (a : Option Addr) (w : World) : RStep B a a w w := ⟨Below.refl _ _, fun _ _ _ => rfl, fun _ h => .inl h⟩
theorem RStep.of_new {B : Nat} {a a' : Option Addr} {w w' : World} (h : Below w.heap.size w w') (hB : B ≤ w.heap.size) (hn : ∀ p, a' = some p → w.heap.size ≤ p.block) : RStep B a a' w w' :=
  ⟨h.mono hB, fun k hk _ => h.block k hk, fun k hk => .inr (by
    cases a' with
    | none => cases hk
    | some p => cases hk; exact hn p rfl)⟩

/-- 'copy' into a row that is known whole, between elements of k cells. -/
theorem run_copyRowK {P : Program} (w : World) (dT sT ty elem : TypeId) (k g o dLen dCap : Nat) (a : Addr) (sLen sCap : Nat) (cur : Array Value) (t : TypeId) (cs : List Value)
    (hu : P.underlying dT = some (.slice elem)) (hs : (P.info? elem).map (·.size) = some k)
    (hg : w.heap[g]? = some (.cells cur t (0, 0))) (hn : cs.length = Nat.min sLen dLen * k)
    (hsrc : ∀ j v, cs[j]? = some v → w.cell? (a.add j) = some v) (hfit : o + cs.length ≤ cur.size) (h1 : ∀ v ∈ cs, v.oneCell' = true) :
    (Builtin.copy_ #[dT, sT] ty #[.slice (some ⟨g, o, none⟩) dLen dCap, .slice (some a) sLen sCap]).run P w =
      .ok (goInt (Nat.min sLen dLen)) (w.setRow g (splice cur.toList o cs).toArray) := by
  have hl := run_loadCells_list (P := P) w a cs hsrc
  have hst := run_storeCells_at P g o t cs 0 cur w hg (by simpa using hfit) h1
  cases hq : P.info? elem with
  | none => simp [hq] at hs
  | some i =>
    have hi : i.size = k := by simpa [hq] using hs
    simp [Builtin.copy_, run_underlying hu, Builtin.lenOf, Builtin.firstCells, sizeOf, typeInfo, hq, hi, ← hn, hl, hst, splice]
theorem wpCopyO {P : Program} {w : World} {o : Oper} {a : Act} {K : Act → World → Prop} {Q : Exit → Act → World → Prop} (d s : Operand) (dT sT : TypeId)
    (ho : o.op = .call { callee := .builtin .copy, args := #[d, s], argTypes := #[dT, sT] }) (elem : TypeId) (k : Nat) (hu : P.underlying dT = some (.slice elem)) (hsz : (P.info? elem).map (·.size) = some k)
    (g off dLen dCap : Nat) (ad : Addr) (sLen sCap : Nat) (hd : a.eval d = .slice (some ⟨g, off, none⟩) dLen dCap) (hs : a.eval s = .slice (some ad) sLen sCap)
    (cur : Array Value) (t : TypeId) (hg : w.heap[g]? = some (.cells cur t (0, 0))) (cs : List Value) (hn : cs.length = Nat.min sLen dLen * k)
    (hsrc : ∀ j v, cs[j]? = some v → w.cell? (ad.add j) = some v) (hfit : off + cs.length ≤ cur.size) (h1 : ∀ v ∈ cs, v.oneCell' = true)
    (h : ∀ w', w'.heap[g]? = some (.cells (splice cur.toList off cs).toArray t (0, 0)) → (∀ k, k ≠ g → w'.heap[k]? = w.heap[k]?) → w'.heap.size = w.heap.size → Below g w w' → K (a.put o.dst (goInt (Nat.min sLen dLen))) w') : o.wp P a w K Q := by
  have hrun := run_copyRowK (P := P) w dT sT o.type elem k g off dLen dCap ad sLen sCap cur t cs hu hsz hg hn hsrc hfit h1
  unfold Oper.wp
  simp [execOp, ho, resolve, invoke, builtin, hd, hs, hrun, Result.andThen]
  exact h _ (setRow_heap w g cur _ t _ hg) (fun k hk => setRow_other w g k _ hk) (by simp [World.setRow]) (below_setRow (Below.refl _ _) (Nat.le_refl _) _)
theorem wpCopyL {P : Program} {w : World} {ops : Array Oper} {rest : List Oper} {o : Oper} {a : Act} {Q : Exit → Act → World → Prop} (hgd : o.guard = none) (d s : Operand) (dT sT : TypeId)
    (ho : o.op = .call { callee := .builtin .copy, args := #[d, s], argTypes := #[dT, sT] }) (elem : TypeId) (k : Nat) (hu : P.underlying dT = some (.slice elem)) (hsz : (P.info? elem).map (·.size) = some k)
    (g off dLen dCap : Nat) (ad : Addr) (sLen sCap : Nat) (hd : a.eval d = .slice (some ⟨g, off, none⟩) dLen dCap) (hs : a.eval s = .slice (some ad) sLen sCap)
    (cur : Array Value) (t : TypeId) (hg : w.heap[g]? = some (.cells cur t (0, 0))) (cs : List Value) (hn : cs.length = Nat.min sLen dLen * k)
    (hsrc : ∀ j v, cs[j]? = some v → w.cell? (ad.add j) = some v) (hfit : off + cs.length ≤ cur.size) (h1 : ∀ v ∈ cs, v.oneCell' = true)
    (h : ∀ w', w'.heap[g]? = some (.cells (splice cur.toList off cs).toArray t (0, 0)) → (∀ k, k ≠ g → w'.heap[k]? = w.heap[k]?) → w'.heap.size = w.heap.size → Below g w w' → wpList P ops Q rest (a.put o.dst (goInt (Nat.min sLen dLen))) w') : wpList P ops Q (o :: rest) a w :=
  wpList_plain hgd fun _ hK => wpCopyO d s dT sT ho elem k hu hsz g off dLen dCap ad sLen sCap hd hs cur t hg cs hn hsrc hfit h1 fun w' g1 g2 g3 g4 => hK _ _ (h w' g1 g2 g3 g4)

theorem ins_shift {α : Type} (A D S Y : List α) (h : Y.length ≤ S.length) : splice (splice (A ++ (D ++ S)) (A.length + Y.length) D) A.length Y = A ++ (Y ++ (D ++ S.drop Y.length)) := by
  have e0 : (A ++ (D ++ S)).drop (A.length + Y.length + D.length) = S.drop Y.length := by
    rw [show A.length + Y.length + D.length = A.length + (D.length + Y.length) by omega, List.drop_append, List.drop_append, @List.drop_eq_nil_of_le _ (A) _ (by omega), @List.drop_eq_nil_of_le _ (D) _ (by omega)]
    simp
  have e1 : (A ++ (D ++ S)).take (A.length + Y.length) = A ++ (D ++ S).take Y.length := by
    rw [List.take_append, List.take_of_length_le (by omega)]
    simp
  have e2 : splice (A ++ (D ++ S)) (A.length + Y.length) D = A ++ ((D ++ S).take Y.length ++ (D ++ S.drop Y.length)) := by
    rw [splice, e0, e1, List.append_assoc]
  have e3 : ((D ++ S).take Y.length).length = Y.length := by rw [List.length_take, List.length_append]; omega
  rw [e2, splice, List.take_left, List.drop_append, List.drop_append, @List.drop_eq_nil_of_le _ (A) _ (by omega), @List.drop_eq_nil_of_le _ ((D ++ S).take Y.length) _ (by omega), e3]
  simp
theorem ins_grow {α : Type} (A Z Y D : List α) : splice (splice (A ++ Z) A.length Y) (A.length + Y.length) D = A ++ (Y ++ (D ++ Z.drop (Y.length + D.length))) := by
  have e1 : splice (A ++ Z) A.length Y = (A ++ Y) ++ Z.drop Y.length := by
    rw [splice, List.take_left, List.drop_append, @List.drop_eq_nil_of_le _ (A) _ (by omega)]
    simp
  rw [e1, splice, ← List.length_append, List.take_left, List.drop_append, @List.drop_eq_nil_of_le _ (A ++ Y) _ (by omega)]
  simp [Nat.add_sub_cancel_left]
theorem size_splice {α : Type} (L : List α) (o : Nat) (cs : List α) (h : o + cs.length ≤ L.length) : (splice L o cs).length = L.length := length_splice L o cs h
theorem shape_of {w : World} {g : Nat} {cs : Array Value} {t : TypeId} {fz : Nat × Nat} (h : w.heap[g]? = some (.cells cs t fz)) : w.shape? g = some (t, cs.size) := by simp [World.shape?, h]

def SInsIs (B : Nat) (a : Option Addr) (n m : Nat) (r : List (Int × Int)) (w : World) (e : Ending) (w' : World) : Prop :=
  ∃ a' c', e = .returned (.slice a' (n + m) c') ∧ w'.ownsRow B 130 2 (.slice a' (n + m) c') (n + m) (gv r) ∧ RStep B a a' w w'
theorem info_glyph2 : (Try.prog.info? 130).map (·.size) = some 2 := by kernel_rfl

set_option maxHeartbeats 4000000 in
set_option maxRecDepth 100000 in
/-- There is room, ahead of the last: in place. -/
theorem sins_shift (B b n c i vb m cv : Nat) (cur cv' : Array Value) (l vs : List (Int × Int)) (w : World) (hh : w.heap[b]? = some (.cells cur 130 (0, 0))) (hvh : w.heap[vb]? = some (.cells cv' 130 (0, 0))) (hne : vb ≠ b) (hl : l.length = n) (hvl : vs.length = m)
    (hcs : cur.size = c * 2) (hct : cur.toList.take (n * 2) = gv l) (hv : Has w (some ⟨vb, 0, none⟩) (gv vs)) (hi : i < n) (hm : 0 < m) (hroom : n + m ≤ c) (hc : c ≤ maxLen) (hn : n ≤ 1000000) (hm6 : m ≤ 1000000) (hB : B ≤ b) :
    Calls Try.prog 172 #[.slice (some ⟨b, 0, none⟩) n c, .int .i64 (i : Nat), .slice (some ⟨vb, 0, none⟩) m cv] w (SInsIs B (some ⟨b, 0, none⟩) n m (l.take i ++ (vs ++ l.drop i)) w) := by
  have hov : ∀ lb cb, (callFunc 178 #[.slice (some ⟨vb, 0, none⟩) m cv, .slice (some ⟨b, (i + m) * 2, none⟩) lb cb]).run Try.prog w = .ok (.value (.bool false)) w := fun lb cb => by
    rw [run_callFunc_extern Try.func178 (by kernel_rfl) (by kernel_rfl) (by kernel_rfl) (e := Extern.SlicesOverlaps.overlaps #[54, 54] #[4]) (by kernel_rfl),
      Lib.run_overlaps_apart w 54 4 130 Try.underlying54 2 (by intro W; kernel_rfl) ⟨vb, 0, none⟩ ⟨b, (i + m) * 2, none⟩ m cv lb cb hne 130 130 cv'.size cur.size (shape_of hvh) (shape_of hh) (by omega) (froz_of_heap hvh 0) (froz_of_heap hvh _)]
    rfl
  have hA : (gv (l.take i)).length = i * 2 := by rw [gv_length, List.length_take, hl]; omega
  have hD : (gv (l.drop i)).length = (n - i) * 2 := by rw [gv_length, List.length_drop, hl]
  have hY : (gv vs).length = m * 2 := by rw [gv_length, hvl]
  have hcur : cur.toList = gv (l.take i) ++ (gv (l.drop i) ++ cur.toList.drop (n * 2)) := by
    rw [← List.append_assoc, ← gv_append, List.take_append_drop, ← hct, List.take_append_drop]
  have hlen : (splice cur.toList ((i + m) * 2) (gv (l.drop i))).length = c * 2 := by
    rw [size_splice _ _ _ (by rw [hD, Array.length_toList, hcs]; omega), Array.length_toList, hcs]
  have hfin : splice (splice cur.toList ((i + m) * 2) (gv (l.drop i))) (i * 2) (gv vs) = gv (l.take i ++ (vs ++ l.drop i)) ++ (cur.toList.drop (n * 2)).drop (m * 2) := by
    have := ins_shift (gv (l.take i)) (gv (l.drop i)) (cur.toList.drop (n * 2)) (gv vs) (by rw [hY, List.length_drop, Array.length_toList, hcs]; omega)
    rw [hA, hY, ← hcur, show i * 2 + m * 2 = (i + m) * 2 by omega] at this
    rw [this, gv_append, gv_append]
    simp
  have hlen2 : (splice (splice cur.toList ((i + m) * 2) (gv (l.drop i))) (i * 2) (gv vs)).length = c * 2 := by
    rw [size_splice _ _ _ (by rw [hY, hlen]; omega), hlen]
  have hsz : (gv (l.take i ++ (vs ++ l.drop i))).length = (n + m) * 2 := by
    rw [gv_length]; simp [hl, hvl]; omega
  obtain ⟨L1, hL1⟩ : ∃ L1, L1 = splice cur.toList ((i + m) * 2) (gv (l.drop i)) := ⟨_, rfl⟩
  have hsrcD : Has w (some ⟨b, i * 2, none⟩) (gv (l.drop i)) := by
    have hall : ∀ j u, cur.toList[j]? = some u → w.cell? ⟨b, j, none⟩ = some u := fun j u hu => by rw [cell_of_heap hh]; simpa using hu
    refine has_of fun j u hu => hall _ _ ?_
    rw [hcur, List.getElem?_append_right (by omega), hA, List.getElem?_append_left (by have := (List.getElem?_eq_some_iff.1 hu).1; omega), show i * 2 + j - i * 2 = j by omega]
    exact hu
  rw [← hL1] at hlen hfin hlen2
  obtain ⟨L2, hL2⟩ : ∃ L2, L2 = splice L1 (i * 2) (gv vs) := ⟨_, rfl⟩
  rw [← hL2] at hfin hlen2
  have HV := Lib.hid hv
  have HF := Lib.hid hfin
  have HS := Lib.hid hsz
  have HL1 := Lib.hid hL1
  have HL2 := Lib.hid hL2
  have HSD := Lib.hid hsrcD
  have HH := Lib.hid hh
  have HD := Lib.hid hD
  have HY := Lib.hid hY
  have HLL := Lib.hid hlen
  have HLL2 := Lib.hid hlen2
  have HCS := Lib.hid hcs
  have hbw := (Array.getElem?_eq_some_iff.1 hh).1
  have hk1 : ¬ c = i := by omega
  have hk2 : ¬ c = i + m := by omega
  have hm0 : ¬ (m : Int) = 0 := by omega
  have hin : ¬ (i : Int) = (n : Int) := by omega
  unfold maxLen at hc
  unfold SInsIs
  obtain ⟨R, hR⟩ : ∃ R, R = gv (l.take i ++ (vs ++ l.drop i)) := ⟨_, rfl⟩
  rw [← hR] at HF HS ⊢
  clear hfin hsz hL1 hL2 hsrcD hh hD hY hlen hlen2 hcs hv hct hcur hA hvh hl hvl hR
  go_enter Try.func172, Try.ntmps172
  go_wp2_with (simp only [hov])
  refine wp_region_last (.step 0 (.step 1 (.step 2 (.step 3 (.step 4 (.step 5 (.step 6 (.step 7 (.step 8 .nil))))))))) 8 (by kernel_rfl) (by kernel_rfl) (by kernel_rfl) (by kernel_rfl) (by kernel_rfl) (by intro _ _ d_ _ _ h_; cases d_ <;> first | exact h_ | (dsimp +zetaDelta only at h_ ⊢; exact h_)) (fun w' => ∃ p : Wld w [], w' = p.val) (wld_start _ _) ?_
  have hG_ := @wldC w
  (refine z_quiet gtA (by rfl) (by rfl) (fun K_ hK_ => ?_); go_big_quiet_op; refine hK_ _ ?_; clear hK_ K_)
  (refine z_quiet gtA (by rfl) (by rfl) (fun K_ hK_ => ?_); go_big_quiet_op; refine hK_ _ ?_; clear hK_ K_)
  (refine z_quiet gtA (by rfl) (by rfl) (fun K_ hK_ => ?_); go_big_quiet_op; refine hK_ _ ?_; clear hK_ K_)
  (refine z_quiet gtA (by rfl) (by rfl) (fun K_ hK_ => ?_); go_big_quiet_op; refine hK_ _ ?_; clear hK_ K_)
  (refine z_quiet gtA (by rfl) (by rfl) (fun K_ hK_ => ?_); go_big_quiet_op; refine hK_ _ ?_; clear hK_ K_)
  (refine z_quiet gtA (by rfl) (by rfl) (fun K_ hK_ => ?_); go_big_quiet_op; refine hK_ _ ?_; clear hK_ K_)
  (refine z_quiet gtA (by rfl) (by rfl) (fun K_ hK_ => ?_); go_big_quiet_op; refine hK_ _ ?_; clear hK_ K_)
  (refine z_quiet gtA (by rfl) (by rfl) (fun K_ hK_ => ?_); go_big_quiet_op; refine hK_ _ ?_; clear hK_ K_)
  (refine z_last gtA (by rfl) (by rfl) (by rfl) (fun K_ hK_ => ?_); have HK_ := Lib.hid hK_; clear hK_; (first | ((refine wpCopyO _ _ 54 54 rfl 130 2 Try.underlying54 info_glyph2 b ((i + m) * 2) _ _ ⟨b, i * 2, none⟩ _ _ rfl rfl cur 130 HH.out (gv (l.drop i)) (by rw [HD.out]; simp only [Nat.min_def]; split <;> omega) (fun j v hj => by obtain ⟨p, hp, hc⟩ := HSD.out j v hj; cases hp; exact hc) (by rw [HD.out, HCS.out]; omega) (gv_one _) ?_; intro W1 hW1 ho1 hz1 hb1; rw [← HL1.out] at hW1; have HW1 := Lib.hid hW1; have HO1 := Lib.hid (show ∀ k, k ≠ b → W1.heap[k]? = w.heap[k]? from ho1); have hz1' : W1.heap.size = w.heap.size := hz1; have HB1 := Lib.hid (show Below b w W1 from (bdrew1q (Below.refl b w)).trans hb1); have HV1 := Lib.hid (show Has W1 (some ⟨vb, 0, none⟩) (gv vs) from fun j u hu => by obtain ⟨p, hp, hc⟩ := HV.out j u hu; cases hp; exact ⟨_, rfl, by rw [World.cell?_of_block (w := w) (HO1.out _ (by rw [add_block]; exact hne))]; exact hc⟩); clear hW1 ho1 hb1 hz1)) | (go_wp2_with (fail))); refine HK_.out _ _ ?_; clear HK_)
  refine z_nil ?_
  clear hG_
  go_wp2_with (refine wpCopyL rfl _ _ 54 54 rfl 130 2 Try.underlying54 info_glyph2 b (i * 2) _ _ ⟨vb, 0, none⟩ _ _ rfl rfl L1.toArray 130 HW1.out (gv vs) ?_ ?_ ?_ ?_ ?_; (rw [HY.out]; simp only [Nat.min_def]; split <;> omega); (intro j v hj; obtain ⟨p, hp, hc⟩ := HV1.out j v hj; cases hp; exact hc); (rw [HY.out, List.size_toArray, HLL.out]; omega); exact gv_one _; intro W2 hW2 ho2 hz2 hb2; rw [← HL2.out] at hW2; have HW2 := Lib.hid hW2; have HO2 := Lib.hid ho2; have HB2 := Lib.hid (HB1.out.trans hb2); clear hW2 ho2 hb2)
  go_ret
  refine ⟨some ⟨b, 0, none⟩, c, rfl, ⟨HS.out, .inr ⟨b, c, _, rfl, hB, HW2.out, hroom, by unfold maxLen; omega, by rw [List.size_toArray, HLL2.out], ?_⟩⟩, HB2.out.mono hB, fun k hk hne => ?_, fun _ h => .inl h⟩
  · rw [HF.out, ← HS.out, List.take_left]
  · have : k ≠ b := by rintro rfl; exact hne rfl
    rw [HO2.out k this, HO1.out k this]

set_option maxHeartbeats 4000000 in
set_option maxRecDepth 100000 in
/-- There is no room, ahead of the last: a new row. -/
theorem sins_grow (B b n c i vb m cv : Nat) (cur cv' : Array Value) (l vs : List (Int × Int)) (w : World) (hh : w.heap[b]? = some (.cells cur 130 (0, 0))) (hl : l.length = n) (hvl : vs.length = m)
    (hcs : cur.size = c * 2) (hct : cur.toList.take (n * 2) = gv l) (hv : Has w (some ⟨vb, 0, none⟩) (gv vs)) (hvb : vb < w.heap.size) (hi : i < n) (hm : 0 < m) (hnc : n ≤ c) (hroom : c < n + m) (hn : n ≤ 1000000) (hm6 : m ≤ 1000000) (hB : B ≤ w.heap.size) :
    Calls Try.prog 172 #[.slice (some ⟨b, 0, none⟩) n c, .int .i64 (i : Nat), .slice (some ⟨vb, 0, none⟩) m cv] w (SInsIs B (some ⟨b, 0, none⟩) n m (l.take i ++ (vs ++ l.drop i)) w) := by
  obtain ⟨i0, hi0, hz0, hzs, hzb⟩ := info_parts info_glyph
  have hA : (gv (l.take i)).length = i * 2 := by rw [gv_length, List.length_take, hl]; omega
  have hD : (gv (l.drop i)).length = (n - i) * 2 := by rw [gv_length, List.length_drop, hl]
  have hY : (gv vs).length = m * 2 := by rw [gv_length, hvl]
  have hall : ∀ j u, cur.toList[j]? = some u → w.cell? ⟨b, j, none⟩ = some u := fun j u hu => by rw [cell_of_heap hh]; simpa using hu
  have hcur : cur.toList = gv (l.take i) ++ (gv (l.drop i) ++ cur.toList.drop (n * 2)) := by
    rw [← List.append_assoc, ← gv_append, List.take_append_drop, ← hct, List.take_append_drop]
  have hbw := (Array.getElem?_eq_some_iff.1 hh).1
  have hsrcD : Has w (some ⟨b, i * 2, none⟩) (gv (l.drop i)) := by
    refine has_of fun j u hu => hall _ _ ?_
    rw [hcur, List.getElem?_append_right (by omega), hA, List.getElem?_append_left (by have := (List.getElem?_eq_some_iff.1 hu).1; omega), show i * 2 + j - i * 2 = j by omega]
    exact hu
  have hold : (Builtin.firstCells i0.size i (.slice (some ⟨b, 0, none⟩) i c)).run Try.prog w.drew = .ok (gv (l.take i)).toArray w.drew := by
    rw [hzs]
    exact run_firstCells_some w.drew 2 i ⟨b, 0, none⟩ i c (gv (l.take i)) hA (fun j v hj => by
      rw [Addr.add_lit, Nat.zero_add]
      refine hall _ _ ?_
      rw [hcur, List.getElem?_append_left (by have := (List.getElem?_eq_some_iff.1 hj).1; omega)]
      exact hj)
  have hik : i + (n + m - i) = n + m := by omega
  have hkk : (n : Int) + (m : Int) - (i : Int) = ((n + m - i : Nat) : Int) := by omega
  obtain ⟨G, hG⟩ : ∃ G, G = grownCap w (n + m) c 130 := ⟨_, rfl⟩
  obtain ⟨Z, hZ⟩ : ∃ Z : List Value, Z = (Builtin.zeroCells (Value.agg #[.int .i64 0, .int .i64 0]).cells (n + m - i) ++ Builtin.zeroCells (Value.agg #[.int .i64 0, .int .i64 0]).cells (G - (n + m))).toList := ⟨_, rfl⟩
  have hGn : n + m ≤ G := by rw [hG]; exact grownCap_ge w _ _ _
  have hG63 : G ≤ maxLen := by rw [hG]; exact grownCap_le_maxLen w (n + m) c _ (by unfold maxLen; omega)
  have hZl : Z.length = (G - i) * 2 := by
    rw [hZ, Array.length_toList, Array.size_append, size_zeroCells, size_zeroCells]
    show (n + m - i) * 2 + (G - (n + m)) * 2 = _
    omega
  have hrz : (Builtin.append_ #[54, 3] 54 #[.slice (some ⟨b, 0, none⟩) i c, .int .i64 ((n : Int) + (m : Int) - (i : Int))]).run Try.prog w =
      .ok (.slice (some ⟨w.heap.size, 0, none⟩) (n + m) G) (w.drew.alloc (.cells (gv (l.take i) ++ Z).toArray 130)) := by
    have h := Lib.run_append_grow_zeros w 54 3 54 130 i0 _ .i64 .i64 Try.underlying54 Try.underlying3 hi0 hz0 (some ⟨b, 0, none⟩) i c (gv (l.take i)).toArray.toList (by simpa using hold) (n + m - i) (by omega) (by rw [hzs]; omega) (by omega) (by omega) (by rw [hzb]; omega) (by rw [hzb, hik]; exact growslice_fits hroom (by omega))
    rw [hik, ← hG] at h
    rw [hkk, h]
    congr 3
    rw [hZ]
    apply Array.ext'
    simp
  obtain ⟨W0, hrw, hW0, hB0, hz0⟩ : ∃ W0, (Builtin.append_ #[54, 3] 54 #[.slice (some ⟨b, 0, none⟩) i c, .int .i64 ((n : Int) + (m : Int) - (i : Int))]).run Try.prog w = .ok (.slice (some ⟨w.heap.size, 0, none⟩) (n + m) G) W0 ∧
      W0.heap[w.heap.size]? = some (.cells (gv (l.take i) ++ Z).toArray 130 (0, 0)) ∧ Below w.heap.size w W0 ∧ W0.heap.size = w.heap.size + 1 :=
    ⟨_, hrz, heap_alloc_new w.drew _, balloc (bdrew1 (brefl w)) _, by simp⟩
  have hlen1 : (splice (gv (l.take i) ++ Z) (i * 2) (gv vs)).length = G * 2 := by
    rw [size_splice _ _ _ (by rw [hY, List.length_append, hA, hZl]; omega), List.length_append, hA, hZl]; omega
  have hlen2 : (splice (splice (gv (l.take i) ++ Z) (i * 2) (gv vs)) ((i + m) * 2) (gv (l.drop i))).length = G * 2 := by
    rw [size_splice _ _ _ (by rw [hD, hlen1]; omega), hlen1]
  have hfin : splice (splice (gv (l.take i) ++ Z) (i * 2) (gv vs)) ((i + m) * 2) (gv (l.drop i)) = gv (l.take i ++ (vs ++ l.drop i)) ++ Z.drop (m * 2 + (n - i) * 2) := by
    have := ins_grow (gv (l.take i)) Z (gv vs) (gv (l.drop i))
    rw [hA, hY, hD, show i * 2 + m * 2 = (i + m) * 2 by omega] at this
    rw [this, gv_append, gv_append]
    simp
  have hsz : (gv (l.take i ++ (vs ++ l.drop i))).length = (n + m) * 2 := by
    rw [gv_length]; simp [hl, hvl]; omega
  have hl0 : (gv (l.take i) ++ Z).length = G * 2 := by rw [List.length_append, hA, hZl]; omega
  obtain ⟨L0, hL0⟩ : ∃ L0, L0 = gv (l.take i) ++ Z := ⟨_, rfl⟩
  rw [← hL0] at hlen1 hlen2 hfin hW0 hl0
  obtain ⟨L1, hL1⟩ : ∃ L1, L1 = splice L0 (i * 2) (gv vs) := ⟨_, rfl⟩
  rw [← hL1] at hlen1 hlen2 hfin
  obtain ⟨L2, hL2⟩ : ∃ L2, L2 = splice L1 ((i + m) * 2) (gv (l.drop i)) := ⟨_, rfl⟩
  rw [← hL2] at hfin hlen2
  have HV := Lib.hid (hv.below hB0)
  have HSD := Lib.hid (hsrcD.below hB0)
  have HF := Lib.hid hfin
  have HS := Lib.hid hsz
  have HL0 := Lib.hid hl0
  have HL1 := Lib.hid hL1
  have HL2 := Lib.hid hL2
  have HD := Lib.hid hD
  have HY := Lib.hid hY
  have HLL := Lib.hid hlen1
  have HLL2 := Lib.hid hlen2
  have HW0 := Lib.hid hW0
  have HB0 := Lib.hid hB0
  have HR := Lib.hid hrw
  have hk1 : ¬ c = i := by omega
  have hk2 : ¬ G = i + m := by omega
  have hk3 : ¬ G = i := by omega
  have hm0 : ¬ (m : Int) = 0 := by omega
  have hin : ¬ (i : Int) = (n : Int) := by omega
  have hvN : vb ≠ w.heap.size := by omega
  have hbN : b ≠ w.heap.size := by omega
  unfold maxLen at hG63
  unfold SInsIs
  obtain ⟨R, hR⟩ : ∃ R, R = gv (l.take i ++ (vs ++ l.drop i)) := ⟨_, rfl⟩
  rw [← hR] at HF HS ⊢
  clear hfin hsz hL1 hL2 hsrcD hh hD hY hlen1 hlen2 hcs hv hct hcur hA hl hvl hR hrz hrw hW0 hB0 hl0 hZl hL0 hZ hG hold hall hi0 hz0 hzs hzb hik hkk
  go_enter Try.func172, Try.ntmps172
  go_wp2_with (first
    | (refine Lib.wpList_append_run _ rfl _ _ _ _ rfl _ _ rfl rfl _ _ HR.out ?_)
    | (refine wpCopyL rfl _ _ 54 54 rfl 130 2 Try.underlying54 info_glyph2 w.heap.size (i * 2) _ _ ⟨vb, 0, none⟩ _ _ rfl rfl L0.toArray 130 HW0.out (gv vs) (by rw [HY.out]; simp only [Nat.min_def]; split <;> omega) (fun j v hj => by obtain ⟨p, hp, hc⟩ := HV.out j v hj; cases hp; exact hc) (by rw [HY.out, List.size_toArray, HL0.out]; omega) (gv_one _) ?_; intro W1 hW1 ho1 hz1 hb1; rw [← HL1.out] at hW1; have HW1 := Lib.hid hW1; have HO1 := Lib.hid ho1; have HB1 := Lib.hid (HB0.out.trans hb1); have HSD1 := Lib.hid (show Has W1 (some ⟨b, i * 2, none⟩) (gv (l.drop i)) from fun j u hu => by obtain ⟨p, hp, hc⟩ := HSD.out j u hu; cases hp; exact ⟨_, rfl, by rw [World.cell?_of_block (w := W0) (HO1.out _ (by rw [add_block]; exact hbN))]; exact hc⟩); clear hW1 ho1 hb1; dsimp only [Act.put]; simp only [List.setIfInBounds_toArray, List.set_cons_succ, List.set_cons_zero]))
  refine wp_region_last (.step 0 (.step 1 (.step 2 (.step 3 (.step 4 (.step 5 (.step 6 (.step 7 (.step 8 .nil))))))))) 8 (by kernel_rfl) (by kernel_rfl) (by kernel_rfl) (by kernel_rfl) (by kernel_rfl) (by intro _ _ d_ _ _ h_; cases d_ <;> first | exact h_ | (dsimp +zetaDelta only at h_ ⊢; exact h_)) (fun w' => ∃ p : Wld W1 [], w' = p.val) (wld_start _ _) ?_
  have hG_ := @wldC W1
  (refine z_quiet gtA (by rfl) (by rfl) (fun K_ hK_ => ?_); go_big_quiet_op; refine hK_ _ ?_; clear hK_ K_)
  (refine z_quiet gtA (by rfl) (by rfl) (fun K_ hK_ => ?_); go_big_quiet_op; refine hK_ _ ?_; clear hK_ K_)
  (refine z_quiet gtA (by rfl) (by rfl) (fun K_ hK_ => ?_); go_big_quiet_op; refine hK_ _ ?_; clear hK_ K_)
  (refine z_quiet gtA (by rfl) (by rfl) (fun K_ hK_ => ?_); go_big_quiet_op; refine hK_ _ ?_; clear hK_ K_)
  (refine z_quiet gtA (by rfl) (by rfl) (fun K_ hK_ => ?_); go_big_quiet_op; refine hK_ _ ?_; clear hK_ K_)
  (refine z_quiet gtA (by rfl) (by rfl) (fun K_ hK_ => ?_); go_big_quiet_op; refine hK_ _ ?_; clear hK_ K_)
  (refine z_quiet gtA (by rfl) (by rfl) (fun K_ hK_ => ?_); go_big_quiet_op; refine hK_ _ ?_; clear hK_ K_)
  (refine z_quiet gtA (by rfl) (by rfl) (fun K_ hK_ => ?_); go_big_quiet_op; refine hK_ _ ?_; clear hK_ K_)
  (refine z_last gtA (by rfl) (by rfl) (by rfl) (fun K_ hK_ => ?_); have HK_ := Lib.hid hK_; clear hK_; (first | ((refine wpCopyO _ _ 54 54 rfl 130 2 Try.underlying54 info_glyph2 w.heap.size ((i + m) * 2) _ _ ⟨b, i * 2, none⟩ _ _ rfl rfl L1.toArray 130 HW1.out (gv (l.drop i)) (by rw [HD.out]; simp only [Nat.min_def]; split <;> omega) (fun j v hj => by obtain ⟨p, hp, hc⟩ := HSD1.out j v hj; cases hp; exact hc) (by rw [HD.out, List.size_toArray, HLL.out]; omega) (gv_one _) ?_; intro W2 hW2 ho2 hz2 hb2; rw [← HL2.out] at hW2; have HW2 := Lib.hid hW2; have HO2 := Lib.hid (show ∀ k, k ≠ w.heap.size → W2.heap[k]? = W1.heap[k]? from ho2); have HB2 := Lib.hid (show Below w.heap.size w W2 from (HB1.out.drew).trans hb2); clear hW2 ho2 hb2 hz2)) | (go_wp2_with (fail))); refine HK_.out _ _ ?_; clear HK_)
  refine z_nil ?_
  clear hG_
  go_wp2_with fail
  go_ret
  refine ⟨some ⟨w.heap.size, 0, none⟩, G, rfl, ⟨HS.out, .inr ⟨w.heap.size, G, _, rfl, hB, HW2.out, hGn, by unfold maxLen; omega, by rw [List.size_toArray, HLL2.out], ?_⟩⟩, RStep.of_new HB2.out hB (fun p hp => by cases hp; exact Nat.le_refl _)⟩
  rw [HF.out, ← HS.out, List.take_left]
end Go.Proofs.Ytbicnkopmamnpaa
end
section

/- slices.Insert at glyphs, whatever place; (*line.Line).Insert. Conditions: rows of their own, apart; sizes. -/
namespace Go.Proofs.Ytbicnkopmamnpaa
open Go.RowKit Go.Lib

set_option maxHeartbeats 1600000 in
set_option maxRecDepth 100000 in
theorem sins_zero (B : Nat) (a : Option Addr) (n c i : Nat) (vb cv : Nat) (l : List (Int × Int)) (w : World) (ho : w.ownsRow B 130 2 (.slice a n c) n (gv l)) (hi : i ≤ n) (hn : n ≤ 1000000) :
    Calls Try.prog 172 #[.slice a n c, .int .i64 (i : Nat), .slice (some ⟨vb, 0, none⟩) 0 cv] w (SInsIs B a n 0 l w) := by
  obtain ⟨_, _, he, k1, k2, _⟩ := owns_slice ho
  cases he
  have HO := Lib.hid ho
  unfold maxLen at k2
  clear ho
  unfold SInsIs
  by_cases hci : c = i
  · subst hci
    obtain rfl : n = c := by omega
    go_enter Try.func172, Try.ntmps172
    go_wp2_with fail
    go_ret
    exact ⟨a, n, rfl, HO.out, RStep.refl _ _ _⟩
  · have hi' : (i : Int) ≤ (n : Int) := by omega
    go_enter Try.func172, Try.ntmps172
    go_wp2_with fail
    go_ret
    exact ⟨a, c, rfl, HO.out, RStep.refl _ _ _⟩
set_option maxHeartbeats 1600000 in
set_option maxRecDepth 100000 in
theorem sins_end (B : Nat) (a : Option Addr) (n c : Nat) (vb m cv : Nat) (l vs : List (Int × Int)) (w : World) (ho : w.ownsRow B 130 2 (.slice a n c) n (gv l)) (hv : Has w (some ⟨vb, 0, none⟩) (gv vs)) (hvl : vs.length = m) (hm : 0 < m) (hn : n ≤ 1000000) (hm6 : m ≤ 1000000) (hB : B ≤ w.heap.size) :
    Calls Try.prog 172 #[.slice a n c, .int .i64 (n : Nat), .slice (some ⟨vb, 0, none⟩) m cv] w (SInsIs B a n m (l ++ vs) w) := by
  obtain ⟨_, _, he, k1, k2, _⟩ := owns_slice ho
  cases he
  have HO := Lib.hid ho
  have HV := Lib.hid hv
  have HVL := Lib.hid hvl
  have hm0 : ¬ (m : Int) = 0 := by omega
  unfold maxLen at k2
  clear ho hv hvl
  unfold SInsIs
  by_cases hci : c = n
  · subst hci
    go_enter Try.func172, Try.ntmps172
    go_wp2_with (at_builtin; refine wpAppF rfl _ _ 54 rfl B 130 (.agg #[.int .i64 0, .int .i64 0]) 2 16 Try.underlying54 info_glyph rfl (by decide) a c c (gv l) rfl HO.out ⟨vb, 0, none⟩ m cv hm (gv vs) rfl (by rw [gv_length, HVL.out]) HV.out (gv_one vs) (by unfold maxLen; omega) (by omega) hB ?_; intro a2 c2 w2 h1 h2 h3 h4 h5 h6 h7; have HO2 := Lib.hid h1; have HB2 := Lib.hid h5; have HG2 := Lib.hid h6; have HN2 := Lib.hid h7; clear h1 h4 h5 h6 h7)
    go_ret
    exact ⟨a2, c2, rfl, by rw [gv_append]; exact HO2.out, HB2.out, fun k hk hne => HG2.out.block k hk (by cases a with | none => exact fun e => by cases e | some p => exact hne), fun k hk => by
      rcases HN2.out with e | e
      · rw [e] at hk; exact .inl hk
      · cases a2 with
        | none => cases hk
        | some p => cases hk; exact .inr (e p rfl)⟩
  · have hlt : n < c := by omega
    go_enter Try.func172, Try.ntmps172
    go_wp2_with (at_builtin; refine wpAppF rfl _ _ 54 rfl B 130 (.agg #[.int .i64 0, .int .i64 0]) 2 16 Try.underlying54 info_glyph rfl (by decide) a n c (gv l) rfl HO.out ⟨vb, 0, none⟩ m cv hm (gv vs) rfl (by rw [gv_length, HVL.out]) HV.out (gv_one vs) (by unfold maxLen; omega) (by omega) hB ?_; intro a2 c2 w2 h1 h2 h3 h4 h5 h6 h7; have HO2 := Lib.hid h1; have HB2 := Lib.hid h5; have HG2 := Lib.hid h6; have HN2 := Lib.hid h7; clear h1 h4 h5 h6 h7)
    go_ret
    exact ⟨a2, c2, rfl, by rw [gv_append]; exact HO2.out, HB2.out, fun k hk hne => HG2.out.block k hk (by cases a with | none => exact fun e => by cases e | some p => exact hne), fun k hk => by
      rcases HN2.out with e | e
      · rw [e] at hk; exact .inl hk
      · cases a2 with
        | none => cases hk
        | some p => cases hk; exact .inr (e p rfl)⟩
theorem sins_any (B : Nat) (a : Option Addr) (n c i : Nat) (vb m cv : Nat) (l vs : List (Int × Int)) (w : World) (ho : w.ownsRow B 130 2 (.slice a n c) n (gv l)) (hl : l.length = n)
    (hv : w.ownsRow 0 130 2 (.slice (some ⟨vb, 0, none⟩) m cv) m (gv vs)) (hvl : vs.length = m) (hne : ∀ p, a = some p → vb ≠ p.block) (hi : i ≤ n) (hn : n ≤ 1000000) (hm6 : m ≤ 1000000) (hB : B ≤ w.heap.size) :
    Calls Try.prog 172 #[.slice a n c, .int .i64 (i : Nat), .slice (some ⟨vb, 0, none⟩) m cv] w (SInsIs B a n m (l.take i ++ (vs ++ l.drop i)) w) := by
  rcases Nat.eq_zero_or_pos m with rfl | hm
  · obtain rfl : vs = [] := List.eq_nil_of_length_eq_zero hvl
    rw [List.nil_append, List.take_append_drop]
    exact sins_zero B a n c i vb cv l w ho hi hn
  · by_cases hin : i = n
    · subst hin
      rw [List.take_of_length_le (Nat.le_of_eq hl), List.drop_eq_nil_of_le (Nat.le_of_eq hl), List.append_nil]
      exact sins_end B a i c vb m cv l vs w ho (has_of_owns hv) hvl hm hn hm6 hB
    · rcases ho.2 with ⟨he, h0⟩ | ⟨b, cap, cur, he, hBb, hh, hnc, hcm, hcs, hct⟩
      · omega
      · injection he with e1 _ e3
        subst e1 e3
        rcases hv.2 with ⟨he, _⟩ | ⟨v', cap', cur', he, _, hvh, _⟩
        · cases he
        · injection he with e1 _ e3
          cases e1
          subst e3
          by_cases hroom : n + m ≤ c
          · exact sins_shift B b n c i vb m cv cur cur' l vs w hh hvh (hne _ rfl) hl hvl hcs hct (has_of_owns hv) (by omega) hm hroom hcm hn hm6 hBb
          · exact sins_grow B b n c i vb m cv cur cur' l vs w hh hl hvl hcs hct (has_of_owns hv) (Array.getElem?_eq_some_iff.1 hvh).1 (by omega) hm hnc (by omega) hn hm6 hB

def okI (l : List (Int × Int)) (z : Int) : Bool := decide (0 ≤ z) && decide (z ≤ (l.length : Int))
/-- The cluster of what is inserted at a place. -/
def insC (l : List (Int × Int)) (i : Nat) : Int := (l.getD (if i < l.length then i else l.length - 1) (0, 0)).2
def insG (l : List (Int × Int)) (z : Int) (ids : List Int) : List (Int × Int) := if okI l z then l.take z.toNat ++ ((ids.map fun x => (x, insC l z.toNat)) ++ l.drop z.toNat) else l
theorem insG_length (l : List (Int × Int)) (z : Int) (ids : List Int) : (insG l z ids).length ≤ l.length + ids.length := by
  unfold insG
  split
  · simp only [List.length_append, List.length_take, List.length_map, List.length_drop]; omega
  · omega
theorem insC_at (l : List (Int × Int)) (i : Nat) (hi : i ≤ l.length) : insC l i = (atG l (min (i : Int) ((l.length : Int) - 1))).2 := by
  unfold insC atG inG
  by_cases h : i < l.length
  · rw [if_pos h, if_pos (by simp; omega), show (min (i : Int) ((l.length : Int) - 1)).toNat = i by omega]
  · rw [if_neg h]
    rcases Nat.eq_zero_or_pos l.length with h0 | h0
    · rw [if_neg (by simp; omega), List.getD_eq_getElem?_getD, List.getElem?_eq_none (by omega)]
      rfl
    · rw [if_pos (by simp; omega), show (min (i : Int) ((l.length : Int) - 1)).toNat = l.length - 1 by omega]
theorem GStep.of_row {B g : Nat} {a a' : Option Addr} {w w' : World} (h : RStep B a a' w w') (hB : B ≤ g) (v : Value) : GStep B g a a' w (w'.setCell ⟨g, 0, none⟩ v) :=
  ⟨h.below.setCell (p := ⟨g, 0, none⟩) hB v, fun k hk hg ha => by rw [set_heap_other _ hg]; exact h.keep k hk ha, h.new⟩
def partF (ids : List Int) (cl : Int) (k : Nat) : List (Int × Int) := ((ids.map fun x => (x, cl)).take k) ++ List.replicate (ids.length - k) (0, 0)
theorem partF_zero (ids : List Int) (cl : Int) : partF ids cl 0 = List.replicate ids.length (0, 0) := by simp [partF]
theorem partF_all (ids : List Int) (cl : Int) : partF ids cl ids.length = ids.map fun x => (x, cl) := by simp [partF, List.take_of_length_le]
theorem partF_set (ids : List Int) (cl : Int) (k : Nat) (z : Int) (h : ids[k]? = some z) : (partF ids cl k).set k (z, cl) = partF ids cl (k + 1) := by
  have hlt := (List.getElem?_eq_some_iff.1 h).1
  have hg : (ids.map fun x => (x, cl))[k]? = some (z, cl) := by rw [List.getElem?_map, h]; rfl
  rw [partF, partF, List.take_add_one, hg, List.set_append, if_neg (by rw [List.length_take, List.length_map]; omega)]
  rw [show ids.length - k = ids.length - (k + 1) + 1 by omega, List.replicate_succ]
  rw [List.length_take, List.length_map, Nat.min_eq_left (by omega), Nat.sub_self, List.set_cons_zero]
  simp
end Go.Proofs.Ytbicnkopmamnpaa
end
section

/- line.isOrder; (*line.Line).Order; the document's Order. Conditions: a line in memory; as many numbers as the slice says; sizes. -/
namespace Go.Proofs.Ytbicnkopmamnpaa
open Go.RowKit Go.Lib

/-- The numbers from 0 on, below how many they are, each once. -/
def IsOrd (o : List Int) : Prop := (∀ z ∈ o, 0 ≤ z ∧ z < (o.length : Int)) ∧ o.Nodup
instance (o : List Int) : Decidable (IsOrd o) := inferInstanceAs (Decidable (_ ∧ _))
end Go.Proofs.Ytbicnkopmamnpaa
end
section

/- (*line.Line).Join, and the document's Join. Conditions: a line in memory; as many numbers as the slice says; sizes. -/
namespace Go.Proofs.Ytbicnkopmamnpaa
open Go.RowKit Go.Lib

end Go.Proofs.Ytbicnkopmamnpaa
end
section

/- (*line.Line).Insert. Conditions: a line in memory; as many numbers as the slice says; sizes. -/
namespace Go.Proofs.Ytbicnkopmamnpaa
open Go.RowKit Go.Lib

theorem GStep.of_below' {B g : Nat} {a : Option Addr} {w w' : World} (h : Below w.heap.size w w') (hB : B ≤ w.heap.size) : GStep B g a a w w' := GStep.of_below h hB
def InsIs (B g : Nat) (a : Option Addr) (l : List (Int × Int)) (z : Int) (ids : List Int) (w : World) (e : Ending) (w' : World) : Prop :=
  ∃ a' c', e = .returned (.bool (okI l z)) ∧ GIs B g a' c' (insG l z ids) w' ∧ GStep B g a a' w w'
set_option maxHeartbeats 3200000 in
set_option maxRecDepth 100000 in
theorem gins_any (B g : Nat) (a : Option Addr) (c : Nat) (l : List (Int × Int)) (z : Int) (ai : Option Addr) (m ci : Nat) (ids : List Int) (w : World) (h : GIs B g a c l w) (hi : Has w ai (iv ids)) (hil : ids.length = m) (hB : B ≤ g) (hBw : B ≤ w.heap.size) (hn : l.length ≤ 1000000) (hm : m ≤ 1000000) :
    Calls Try.prog 157 #[.pointer (some ⟨g, 0, none⟩), .int .i64 z, .slice ai m ci] w (InsIs B g a l z ids w) := by
  have hAC := allocC
  have hAF := allocF
  have HG := Lib.hid h
  have hgw := (Array.getElem?_eq_some_iff.1 h.hd).1
  have q0 := cell_of_heap h.hd 0
  simp only [List.getElem?_toArray, List.getElem?_cons_zero] at q0
  unfold InsIs
  by_cases h0 : z < 0
  · have hok : okI l z = false := by simp [okI]; omega
    have hin : insG l z ids = l := by rw [insG, if_neg (by rw [hok]; decide)]
    have HI := Lib.hid hin
    rw [hok]
    clear hok hin h hi hil
    go_enter Try.func157, Try.ntmps157
    go_wp2_with fail
    go_ret
    exact ⟨a, c, rfl, by rw [HI.out]; exact HG.out, ⟨Below.refl _ _, fun _ _ _ _ => rfl, fun _ h => .inl h⟩⟩
  obtain ⟨i, rfl⟩ : ∃ i : Nat, z = i := ⟨z.toNat, by omega⟩
  clear h0
  by_cases hin : l.length < i
  · have hok : okI l (i : Nat) = false := by simp [okI]; omega
    have hine : insG l (i : Nat) ids = l := by rw [insG, if_neg (by rw [hok]; decide)]
    have HI := Lib.hid hine
    rw [hok]
    have hi9 : (l.length : Int) < (i : Int) := by omega
    clear hok hine h hi hil
    generalize l.length = n at *
    go_enter Try.func157, Try.ntmps157
    go_wp2_with fail
    go_ret
    exact ⟨a, c, rfl, by rw [HI.out]; exact HG.out, ⟨Below.refl _ _, fun _ _ _ _ => rfl, fun _ h => .inl h⟩⟩
  have hok : okI l (i : Nat) = true := by simp [okI]; omega
  have HI := Lib.hid (show insG l (i : Nat) ids = l.take i ++ ((ids.map fun x => (x, insC l i)) ++ l.drop i) by rw [insG, if_pos hok, Int.toNat_natCast])
  rw [hok]
  have HS := Lib.hid hi
  have HL := Lib.hid hil
  have hd1 : decide ((i : Int) < 0) = false := by simp
  have hd2 : decide ((l.length : Int) < (i : Int)) = false := by simp; omega
  have hgi := h.slice
  have hC := insC_at l i (by omega)
  clear hi hil hok
  obtain ⟨n, hnl⟩ : ∃ n, n = l.length := ⟨_, rfl⟩
  have HN := Lib.hid hnl
  rw [← hnl] at q0 hn hin hd2 hC
  by_cases hlt : i < n
  ·
    have HAt := Lib.hid (fun W (hW : Below w.heap.size w W) => gat_any B g a c l W (h.below hW) (i : Nat))
    rw [show min (i : Int) ((n : Int) - 1) = (i : Nat) by omega] at hC
    obtain ⟨⟨x0, x1⟩, hx⟩ : ∃ x, x = atG l (i : Nat) := ⟨_, rfl⟩
    rw [← hx] at HAt hC
    simp only [glyphA] at HAt hC
    have HC := Lib.hid hC
    have hm1 : ¬ ((n : Int) - 1 < (i : Int)) := by omega
    clear hx hC h hnl

    obtain ⟨R, hR⟩ : ∃ R, R = l.take i ++ ((ids.map fun x => (x, insC l i)) ++ l.drop i) := ⟨_, rfl⟩
    rw [← hR] at HI
    rw [HC.out] at hR
    have HRR := Lib.hid hR
    have hle : i ≤ n := by omega
    clear hR
    go_enter Try.func157, Try.ntmps157
    go_wp2_with (first
      | (go_at_call 84; (with_reducible refine (HAt.out _ (by exact blw)).mono ?_); rintro e w1 ⟨rfl, hb1⟩; have h1c := bc hb1; have h1f := bf hb1; have h1z := hb1.size; try simp only [World.size_alloc, World.size_drew] at h1z)
      | (refine wpMake _ rfl _ _ 54 rfl w.heap.size 130 (.agg #[.int .i64 0, .int .i64 0]) 2 16 Try.underlying54 info_glyph m rfl rfl (by omega) (by unfold maxLen; omega) (by simp; omega) ?_; intro w2 hown hb2; rw [made_glyph, ← HL.out, ← partF_zero ids x1, HL.out, World.size_alloc] at hown; rw [World.size_alloc]; have HO2 := Lib.hid hown; have HN2 := Lib.hid (show w2.cell? ⟨w1.heap.size, 1, none⟩ = some (.int .i64 x1) by rw [hb2.cell (p := ⟨w1.heap.size, 1, none⟩) (by simp), hAC, if_pos rfl]; rfl); have HB2 := Lib.hid (show Below w.heap.size w w2 from ((balloc hb1 _).trans (hb2.mono (by simp; omega)))); have hz2 : w1.heap.size + 1 ≤ w2.heap.size := (by have := hb2.size; simpa using this); clear hown hb2))
    clear h1c h1f hAC hAF HAt
    go_loopw [41] (fun i wr => ∃ j : Nat, j ≤ m ∧ i = .int .i64 (j : Nat) ∧ wr.ownsRow w.heap.size 130 2 (.slice (some ⟨w1.heap.size + 1, 0, none⟩) m m) m (gv (partF ids x1 j)) ∧ Below (w1.heap.size + 1) w2 wr) (fun i _ => m - (Go.RowKit.intOf i).toNat)
    case atStart => exact ⟨0, Nat.zero_le _, rfl, HO2.out, Below.refl _ _⟩
    case round =>
      obtain ⟨j, hj, rfl, hx, hb⟩ := hrel
      have HX := Lib.hid hx
      have HB := Lib.hid hb
      have HBW := Lib.hid (HB2.out.trans (hb.mono (by omega)))
      have hzr := hb.size
      have hcn := (hb.cell (p := ⟨w1.heap.size, 1, none⟩) (by simp)).trans HN2.out
      clear hx hb
      by_cases hlj : j < m
      · obtain ⟨gi, oi, z, rfl, hgi, hz, hci⟩ := iv_at (HS.out.below HBW.out) (k := j) (by rw [HL.out]; exact hlj)
        obtain ⟨g2, cs2, u2, he, _, hh2, hc2, _, f2, hs2⟩ := row_at HX.out (j * 2) (by omega)
        obtain ⟨g3, cs3, u3, he3, _, hh3, hc3, _, f3, hs3⟩ := row_at (hs2 (.int .i64 z)) (j * 2 + 1) (by omega)
        cases he
        cases he3
        have hc3' : ∃ u, wr.cell? ⟨w1.heap.size + 1, j * 2 + 1, none⟩ = some u := by
          obtain ⟨_, _, u, he, _, _, hc, _⟩ := row_at HX.out (j * 2 + 1) (by omega)
          cases he
          exact ⟨u, hc⟩
        obtain ⟨u3', hc3'⟩ := hc3'
        have f3' : wr.frozen? ⟨w1.heap.size + 1, j * 2 + 1, none⟩ = false := by
          obtain ⟨_, _, u, he, _, _, _, _, hf, _⟩ := row_at HX.out (j * 2 + 1) (by omega)
          cases he
          exact hf
        have hs := hs3 (.int .i64 x1)
        rw [gv_set, partF_set ids x1 j z hz] at hs
        have HSX := Lib.hid hs
        have HB3 := Lib.hid ((HB.out.setCell (p := ⟨w1.heap.size + 1, j * 2, none⟩) (Nat.le_refl _) (.int .i64 z)).setCell (p := ⟨w1.heap.size + 1, j * 2 + 1, none⟩) (Nat.le_refl _) (.int .i64 x1))
        clear hs hs2 hs3 hh2 hh3 hc3 f3 hz
        go_wp2_with fail
        go_roundw
        case rel => exact ⟨j + 1, hlj, by go_num, HSX.out, HB3.out⟩
        case measure => simp [Go.RowKit.intOf]; omega
      · obtain rfl : m = j := by omega
        have ho := HX.out
        rw [← HL.out, partF_all, HL.out] at ho
        have HGR := Lib.hid (HG.out.below HBW.out)
        have hgr := HGR.out
        have q0r := cell_of_heap hgr.hd 0
        rw [← HN.out] at q0r
        simp only [List.getElem?_toArray, List.getElem?_cons_zero] at q0r
        have hSI := sins_any B a n c i (w1.heap.size + 1) m m l (ids.map fun x => (x, x1)) wr (by rw [HN.out]; exact hgr.row) HN.out.symm (owns_mono ho (Nat.zero_le _)) (by simp [HL.out]) (fun p hp => by
          have := HG.out.row.lt p.block (by rw [hp]; rfl)
          omega) hle hn hm (by omega)
        rw [← HRR.out] at hSI
        have HSI := Lib.hid hSI
        clear ho hgr hSI HX HN2 HO2 hcn
        go_wp2_with (go_at_call 172; (with_reducible refine HSI.out.mono ?_); rintro e w5 ⟨a5, c5, rfl, ho5, hr5⟩; have HO5 := Lib.hid ho5; have HR5 := Lib.hid hr5; have hg5 := (hr5.keep g (by omega) (fun e => by cases a with | none => cases e | some p => injection e with e; exact own_neE HGR.out.row HGR.out.hd (by decide) (by rw [e]; rfl))).trans HGR.out.hd; have q5 := cell_of_heap hg5 0; have f5 := froz_of_heap hg5 0; have HH5 := Lib.hid hg5; clear ho5 hr5 hg5; simp only [List.getElem?_toArray, List.getElem?_cons_zero] at q5)
        go_ret
        have hRl : R.length = n + m := by
          have h1 := HO5.out.1
          rw [gv_length] at h1
          omega
        refine ⟨a5, c5, rfl, ⟨?_, ?_⟩, ?_⟩
        · rw [HI.out, set_heap_at _ HH5.out, hRl]
          rfl
        · rw [HI.out, hRl]
          exact set_owns _ HO5.out (own_neE HO5.out HH5.out (by decide))
        · exact (GStep.of_below' HBW.out hBw).trans (GStep.of_row HR5.out hB _)
  ·
    have HAt := Lib.hid (fun W (hW : Below w.heap.size w W) => gat_any B g a c l W (h.below hW) ((n : Int) - 1))
    rw [show min (i : Int) ((n : Int) - 1) = ((n : Int) - 1) by omega] at hC
    obtain ⟨⟨x0, x1⟩, hx⟩ : ∃ x, x = atG l ((n : Int) - 1) := ⟨_, rfl⟩
    rw [← hx] at HAt hC
    simp only [glyphA] at HAt hC
    have HC := Lib.hid hC
    obtain rfl : n = i := by omega
    have hm1 : (n : Int) - 1 < (n : Int) := by omega
    clear hd2
    have hd2 : decide ((n : Int) < (n : Int)) = false := by simp
    clear hx hC h hnl

    obtain ⟨R, hR⟩ : ∃ R, R = l.take n ++ ((ids.map fun x => (x, insC l n)) ++ l.drop n) := ⟨_, rfl⟩
    rw [← hR] at HI
    rw [HC.out] at hR
    have HRR := Lib.hid hR
    have hle : n ≤ n := by omega
    clear hR
    go_enter Try.func157, Try.ntmps157
    go_wp2_with (first
      | (go_at_call 84; (with_reducible refine (HAt.out _ (by exact blw)).mono ?_); rintro e w1 ⟨rfl, hb1⟩; have h1c := bc hb1; have h1f := bf hb1; have h1z := hb1.size; try simp only [World.size_alloc, World.size_drew] at h1z)
      | (refine wpMake _ rfl _ _ 54 rfl w.heap.size 130 (.agg #[.int .i64 0, .int .i64 0]) 2 16 Try.underlying54 info_glyph m rfl rfl (by omega) (by unfold maxLen; omega) (by simp; omega) ?_; intro w2 hown hb2; rw [made_glyph, ← HL.out, ← partF_zero ids x1, HL.out, World.size_alloc] at hown; rw [World.size_alloc]; have HO2 := Lib.hid hown; have HN2 := Lib.hid (show w2.cell? ⟨w1.heap.size, 1, none⟩ = some (.int .i64 x1) by rw [hb2.cell (p := ⟨w1.heap.size, 1, none⟩) (by simp), hAC, if_pos rfl]; rfl); have HB2 := Lib.hid (show Below w.heap.size w w2 from ((balloc hb1 _).trans (hb2.mono (by simp; omega)))); have hz2 : w1.heap.size + 1 ≤ w2.heap.size := (by have := hb2.size; simpa using this); clear hown hb2))
    clear h1c h1f hAC hAF HAt
    go_loopw [41] (fun i wr => ∃ j : Nat, j ≤ m ∧ i = .int .i64 (j : Nat) ∧ wr.ownsRow w.heap.size 130 2 (.slice (some ⟨w1.heap.size + 1, 0, none⟩) m m) m (gv (partF ids x1 j)) ∧ Below (w1.heap.size + 1) w2 wr) (fun i _ => m - (Go.RowKit.intOf i).toNat)
    case atStart => exact ⟨0, Nat.zero_le _, rfl, HO2.out, Below.refl _ _⟩
    case round =>
      obtain ⟨j, hj, rfl, hx, hb⟩ := hrel
      have HX := Lib.hid hx
      have HB := Lib.hid hb
      have HBW := Lib.hid (HB2.out.trans (hb.mono (by omega)))
      have hzr := hb.size
      have hcn := (hb.cell (p := ⟨w1.heap.size, 1, none⟩) (by simp)).trans HN2.out
      clear hx hb
      by_cases hlj : j < m
      · obtain ⟨gi, oi, z, rfl, hgi, hz, hci⟩ := iv_at (HS.out.below HBW.out) (k := j) (by rw [HL.out]; exact hlj)
        obtain ⟨g2, cs2, u2, he, _, hh2, hc2, _, f2, hs2⟩ := row_at HX.out (j * 2) (by omega)
        obtain ⟨g3, cs3, u3, he3, _, hh3, hc3, _, f3, hs3⟩ := row_at (hs2 (.int .i64 z)) (j * 2 + 1) (by omega)
        cases he
        cases he3
        have hc3' : ∃ u, wr.cell? ⟨w1.heap.size + 1, j * 2 + 1, none⟩ = some u := by
          obtain ⟨_, _, u, he, _, _, hc, _⟩ := row_at HX.out (j * 2 + 1) (by omega)
          cases he
          exact ⟨u, hc⟩
        obtain ⟨u3', hc3'⟩ := hc3'
        have f3' : wr.frozen? ⟨w1.heap.size + 1, j * 2 + 1, none⟩ = false := by
          obtain ⟨_, _, u, he, _, _, _, _, hf, _⟩ := row_at HX.out (j * 2 + 1) (by omega)
          cases he
          exact hf
        have hs := hs3 (.int .i64 x1)
        rw [gv_set, partF_set ids x1 j z hz] at hs
        have HSX := Lib.hid hs
        have HB3 := Lib.hid ((HB.out.setCell (p := ⟨w1.heap.size + 1, j * 2, none⟩) (Nat.le_refl _) (.int .i64 z)).setCell (p := ⟨w1.heap.size + 1, j * 2 + 1, none⟩) (Nat.le_refl _) (.int .i64 x1))
        clear hs hs2 hs3 hh2 hh3 hc3 f3 hz
        go_wp2_with fail
        go_roundw
        case rel => exact ⟨j + 1, hlj, by go_num, HSX.out, HB3.out⟩
        case measure => simp [Go.RowKit.intOf]; omega
      · obtain rfl : m = j := by omega
        have ho := HX.out
        rw [← HL.out, partF_all, HL.out] at ho
        have HGR := Lib.hid (HG.out.below HBW.out)
        have hgr := HGR.out
        have q0r := cell_of_heap hgr.hd 0
        rw [← HN.out] at q0r
        simp only [List.getElem?_toArray, List.getElem?_cons_zero] at q0r
        have hSI := sins_any B a n c n (w1.heap.size + 1) m m l (ids.map fun x => (x, x1)) wr (by rw [HN.out]; exact hgr.row) HN.out.symm (owns_mono ho (Nat.zero_le _)) (by simp [HL.out]) (fun p hp => by
          have := HG.out.row.lt p.block (by rw [hp]; rfl)
          omega) hle hn hm (by omega)
        rw [← HRR.out] at hSI
        have HSI := Lib.hid hSI
        clear ho hgr hSI HX HN2 HO2 hcn
        go_wp2_with (go_at_call 172; (with_reducible refine HSI.out.mono ?_); rintro e w5 ⟨a5, c5, rfl, ho5, hr5⟩; have HO5 := Lib.hid ho5; have HR5 := Lib.hid hr5; have hg5 := (hr5.keep g (by omega) (fun e => by cases a with | none => cases e | some p => injection e with e; exact own_neE HGR.out.row HGR.out.hd (by decide) (by rw [e]; rfl))).trans HGR.out.hd; have q5 := cell_of_heap hg5 0; have f5 := froz_of_heap hg5 0; have HH5 := Lib.hid hg5; clear ho5 hr5 hg5; simp only [List.getElem?_toArray, List.getElem?_cons_zero] at q5)
        go_ret
        have hRl : R.length = n + m := by
          have h1 := HO5.out.1
          rw [gv_length] at h1
          omega
        refine ⟨a5, c5, rfl, ⟨?_, ?_⟩, ?_⟩
        · rw [HI.out, set_heap_at _ HH5.out, hRl]
          rfl
        · rw [HI.out, hRl]
          exact set_owns _ HO5.out (own_neE HO5.out HH5.out (by decide))
        · exact (GStep.of_below' HBW.out hBw).trans (GStep.of_row HR5.out hB _)
end Go.Proofs.Ytbicnkopmamnpaa
end
section

/- What an argument of glyphs, and one of numbers, is. No condition. -/
namespace Go.Proofs.Ytbicnkopmamnpaa
open Go.ChangeShapes Go.WideShapes Go.ChangeAt Go.RowKit

section
variable {H : Type} {enc : TypeId × Value → H}
set_option maxRecDepth 100000 in
theorem open_ids {W : World} {base : Nat} {v : Value} {d : DataW H} {p : List MemPlace} (hv : Value.okWide Try.prog W .any base 30 v) (h : DataW.Trod enc Try.prog W 0 (fun _ => true) true 30 v d p) :
    ∃ (a : Option Addr) (n c : Nat) (zs : List Int), v = .slice a n c ∧ zs.length = n ∧ n ≤ c ∧ c ≤ maxLen ∧ (a = none → c = 0) ∧ Has W a (iv zs) ∧ ∀ z ∈ zs, -9223372036854775808 ≤ z ∧ z ≤ 9223372036854775807 := by
  obtain ⟨a, n, c, zs, h1, h2, h3, h4, h5, h6, h7⟩ := open_nums Try.underlying30 Try.underlying3 hv h
  exact ⟨a, n, c, zs, h1, h2, h3, h4, h5, h6, fun z hz => wf_i64 (h7 z hz)⟩
end
end Go.Proofs.Ytbicnkopmamnpaa
end
