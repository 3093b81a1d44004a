
/- Glyphs as cells; copy between rows of elements of more cells than one; a line in memory. Conditions: sizes, as the lemmas say. -/
import Derived.Test.YtfnghinefbmlmaaZed
import Derived.Test.YtfnghinefbmlmaaKeptE
import Derived.Laws.CopyRow
import Derived.Laws.CopyOwn
import Derived.Lib.AppendZerosOnto
import Derived.Deep.AppendSrc
import Derived.Lib.Overlaps
import Derived.Lib.JoinLaws
namespace Go.Proofs.Ytfnghinefbmlmaa
open Go.RowKit

def gv (l : List (Int × Int)) : List Value := l.flatMap fun g => [.int .i64 g.1, .int .i64 g.2]
theorem gv_nil : gv [] = [] := rfl
theorem gv_cons (g : Int × Int) (l : List (Int × Int)) : gv (g :: l) = .int .i64 g.1 :: .int .i64 g.2 :: gv l := rfl
theorem gv_length : ∀ l, (gv l).length = l.length * 2
  | [] => rfl
  | g :: l => by rw [gv_cons, List.length_cons, List.length_cons, gv_length l, List.length_cons]; omega
theorem gv_append (a b : List (Int × Int)) : gv (a ++ b) = gv a ++ gv b := by simp [gv]
theorem gv_take : ∀ (l : List (Int × Int)) (k : Nat), gv (l.take k) = (gv l).take (k * 2)
  | [], k => by simp [gv_nil]
  | g :: l, 0 => by simp [gv_nil]
  | g :: l, k + 1 => by rw [List.take_succ_cons, gv_cons, gv_cons, gv_take l k, show (k + 1) * 2 = k * 2 + 1 + 1 by omega, List.take_succ_cons, List.take_succ_cons]
theorem gv_drop : ∀ (l : List (Int × Int)) (k : Nat), gv (l.drop k) = (gv l).drop (k * 2)
  | [], k => by simp [gv_nil]
  | g :: l, 0 => by simp
  | g :: l, k + 1 => by rw [List.drop_succ_cons, gv_cons, gv_drop l k, show (k + 1) * 2 = k * 2 + 1 + 1 by omega, List.drop_succ_cons, List.drop_succ_cons]
theorem gv_one (l : List (Int × Int)) : ∀ u ∈ gv l, u.oneCell' = true := by
  intro u hu
  simp only [gv, List.mem_flatMap, List.mem_cons, List.not_mem_nil, or_false] at hu
  obtain ⟨g, _, rfl | rfl⟩ := hu <;> rfl
theorem gv_fst : ∀ {l : List (Int × Int)} {j : Nat} {g : Int × Int}, l[j]? = some g → (gv l)[j * 2]? = some (.int .i64 g.1)
  | [], j, g, h => by simp at h
  | x :: l, 0, g, h => by simp at h; subst h; rfl
  | x :: l, j + 1, g, h => by
    rw [gv_cons, show (j + 1) * 2 = j * 2 + 1 + 1 by omega, List.getElem?_cons_succ, List.getElem?_cons_succ]
    exact gv_fst (by simpa using h)
theorem gv_snd : ∀ {l : List (Int × Int)} {j : Nat} {g : Int × Int}, l[j]? = some g → (gv l)[j * 2 + 1]? = some (.int .i64 g.2)
  | [], j, g, h => by simp at h
  | x :: l, 0, g, h => by simp at h; subst h; rfl
  | x :: l, j + 1, g, h => by
    rw [gv_cons, show (j + 1) * 2 + 1 = j * 2 + 1 + 1 + 1 by omega, List.getElem?_cons_succ, List.getElem?_cons_succ]
    exact gv_snd (by simpa using h)
theorem gv_set : ∀ (l : List (Int × Int)) (j : Nat) (x y : Int), ((gv l).set (j * 2) (.int .i64 x)).set (j * 2 + 1) (.int .i64 y) = gv (l.set j (x, y))
  | [], j, x, y => by simp [gv_nil]
  | g :: l, 0, x, y => rfl
  | g :: l, j + 1, x, y => by
    rw [gv_cons, show (j + 1) * 2 = j * 2 + 1 + 1 by omega, List.set_cons_succ, List.set_cons_succ, List.set_cons_succ, List.set_cons_succ, gv_set l j x y, List.set_cons_succ, gv_cons]
theorem gv_set1 : ∀ (l : List (Int × Int)) (j : Nat) (x : Int) (g : Int × Int), l[j]? = some g → (gv l).set (j * 2) (.int .i64 x) = gv (l.set j (x, g.2))
  | [], j, x, g, h => by simp at h
  | g :: l, 0, x, g', h => by simp at h; subst h; rfl
  | g :: l, j + 1, x, g', h => by
    rw [gv_cons, show (j + 1) * 2 = j * 2 + 1 + 1 by omega, List.set_cons_succ, List.set_cons_succ, gv_set1 l j x g' (by simpa using h), List.set_cons_succ, gv_cons]
theorem gv_set2 : ∀ (l : List (Int × Int)) (j : Nat) (x : Int) (g : Int × Int), l[j]? = some g → (gv l).set (j * 2 + 1) (.int .i64 x) = gv (l.set j (g.1, x))
  | [], j, x, g, h => by simp at h
  | g :: l, 0, x, g', h => by simp at h; subst h; rfl
  | g :: l, j + 1, x, g', h => by
    rw [gv_cons, show (j + 1) * 2 + 1 = j * 2 + 1 + 1 + 1 by omega, List.set_cons_succ, List.set_cons_succ, gv_set2 l j x g' (by simpa using h), List.set_cons_succ, gv_cons]
theorem gv_inj : ∀ {a b : List (Int × Int)}, gv a = gv b → a = b
  | [], [], _ => rfl
  | [], _ :: _, h => by cases h
  | _ :: _, [], h => by cases h
  | x :: a, y :: b, h => by
    rw [gv_cons, gv_cons] at h
    injection h with h1 h
    injection h with h2 h
    injection h1 with _ h1
    injection h2 with _ h2
    rw [gv_inj h, show x = y from Prod.ext h1 h2]

theorem made_glyph (n : Nat) : (madeCells (Value.agg #[.int .i64 0, .int .i64 0]).cells (n * 2)).toList = gv (List.replicate n (0, 0)) := by
  apply List.ext_getElem
  · simp [madeCells, gv_length]
  · intro i h1 h2
    have hlt : i < n * 2 := by rw [gv_length, List.length_replicate] at h2; exact h2
    have hd : i / 2 < n := by omega
    have hg : (List.replicate n ((0 : Int), (0 : Int)))[i / 2]? = some (0, 0) := by rw [List.getElem?_replicate, if_pos hd]
    have hr : (gv (List.replicate n (0, 0)))[i]? = some (.int .i64 0) := by
      rcases Nat.mod_two_eq_zero_or_one i with h | h
      · have := gv_fst hg; rwa [show i / 2 * 2 = i by omega] at this
      · have := gv_snd hg; rwa [show i / 2 * 2 + 1 = i by omega] at this
    rw [List.getElem?_eq_getElem h2] at hr
    rw [Option.some.inj hr]
    simp only [madeCells, Array.getElem_toList, Array.getElem_ofFn, Value.cells]
    rcases Nat.mod_two_eq_zero_or_one i with h | h <;> simp [h]

/-- What a change of a line may touch: its block, and its glyphs'. -/
structure GStep (B g : Nat) (a a' : Option Addr) (w w' : World) : Prop where
  below : Below B w w'
  keep : ∀ k, k < w.heap.size → k ≠ g → some k ≠ a.map (·.block) → w'.heap[k]? = w.heap[k]?
  new : ∀ k, a'.map (·.block) = some k → a.map (·.block) = some k ∨ w.heap.size ≤ k
theorem GStep.of_below {B g : Nat} {a : Option Addr} {w w' : World} (h : Below w.heap.size w w') (hB : B ≤ w.heap.size) : GStep B g a a w w' := ⟨h.mono hB, fun k hk _ _ => h.block k hk, fun _ h => .inl h⟩
theorem GStep.trans {B g : Nat} {a b c : Option Addr} {w1 w2 w3 : World} (h : GStep B g a b w1 w2) (k : GStep B g b c w2 w3) : GStep B g a c w1 w3 :=
  ⟨h.below.trans k.below, fun x hx hg ha => by
    have hs := h.below.size
    rw [k.keep x (by omega) hg (fun e => by rcases h.new x e.symm with e | e; exact ha e.symm; omega), h.keep x hx hg ha],
   fun x hx => by
    have hs := h.below.size
    rcases k.new x hx with e | e
    · exact h.new x e
    · exact .inr (by omega)⟩
/-- What is read elsewhere stays. -/
theorem GStep.has {B g : Nat} {a a' b : Option Addr} {w w' : World} (h : GStep B g a a' w w') {xs : List Value} (hx : Has w b xs) (hg : ∀ p, b = some p → p.block ≠ g) (ha : ∀ p q, b = some p → a = some q → p.block ≠ q.block) : Has w' b xs := by
  intro j u hu
  obtain ⟨p, hp, hc⟩ := hx j u hu
  refine ⟨p, hp, ?_⟩
  have hlt := cell_lt hc
  rw [add_block] at hlt
  rw [World.cell?_of_block (w := w) ?_]
  · exact hc
  · rw [add_block]
    exact h.keep _ hlt (hg p hp) (fun e => by
      cases a with
      | none => cases e
      | some q => injection e with e; exact ha p q hp rfl e)
theorem GStep.owns {B g : Nat} {a a' : Option Addr} {w w' : World} (h : GStep B g a a' w w') {base e size n : Nat} {v : Value} {xs : List Value} (ho : w.ownsRow base e size v n xs) (hg : some g ≠ v.ownBlock) (ha : ∀ q, a = some q → some q.block ≠ v.ownBlock) : w'.ownsRow base e size v n xs := by
  refine ⟨ho.1, ?_⟩
  rcases ho.2 with k | ⟨k, cap, cur, hv, hk, hh, r⟩
  · exact .inl k
  · refine .inr ⟨k, cap, cur, hv, hk, ?_, r⟩
    have he : v.ownBlock = some k := by rw [hv]; rfl
    rw [h.keep k (Array.getElem?_eq_some_iff.1 hh).1 (fun e => hg (by rw [he, e])) (fun e => by
      cases a with
      | none => cases e
      | some q => injection e with e; exact ha q rfl (by rw [he, e]))]
    exact hh

/-- 'copy' between rows of elements of k cells: all is read before anything is written. -/
theorem run_copyK {P : Program} (w : World) (dT sT ty elem : TypeId) (k b o dLen dCap : Nat) (a : Addr) (sLen sCap : Nat) (cs : List Value)
    (hu : P.underlying dT = some (.slice elem)) (hs : (P.info? elem).map (·.size) = some k) (hn : cs.length = Nat.min sLen dLen * k)
    (hsrc : ∀ j v, cs[j]? = some v → w.cell? (a.add j) = some v) (hc : ∀ j, j < cs.length → (w.cell? ⟨b, o + j, none⟩).isSome = true) (hf : ∀ j, j < cs.length → w.frozen? ⟨b, o + j, none⟩ = false) (h1 : ∀ v ∈ cs, v.oneCell' = true) :
    (Builtin.copy_ #[dT, sT] ty #[.slice (some ⟨b, o, none⟩) dLen dCap, .slice (some a) sLen sCap]).run P w = .ok (goInt (Nat.min sLen dLen)) (w.setCells b o cs) := by
  have hl := run_loadCells_list (P := P) w a cs hsrc
  have hst := run_storeCells_cells (P := P) b o cs 0 w (by simpa using hc) (by simpa using hf) h1
  cases hq : P.info? elem with
  | none => simp [hq] at hs
  | some i =>
    have hi : i.size = k := by simpa [hq] using hs
    simp [Builtin.copy_, run_underlying hu, Builtin.lenOf, Builtin.firstCells, sizeOf, typeInfo, hq, hi, ← hn, hl, hst]
end Go.Proofs.Ytfnghinefbmlmaa
