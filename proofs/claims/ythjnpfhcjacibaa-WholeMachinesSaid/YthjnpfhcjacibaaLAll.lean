
/- (*Table).All: the contract of its iterator. Conditions: a table in memory, its parts rising, its numbers there; a body of the loop that keeps what it holds. -/
import Derived.RangeFuncNested
import Derived.RangeFuncBound
import Derived.RangeFuncCalls
import Derived.RangeFuncLeaves
import Derived.Shelf.Abstract
import Derived.WalkKit
import Derived.OwnWalkIn
import Derived.TacticsInMore
import Derived.LoopNIn
import Derived.LoopIn
import Derived.Test.YthjnpfhcjacibaaLRead
namespace Go.Proofs.Ythjnpfhcjacibaa
open Go.RowKit Go.Lib Go.Shelf
attribute [local go_sem] Oper.semAt_some

/-- All cells but some are as they were, and all below B. -/
structure KeepC (B : Nat) (own : Nat → Nat → Prop) (w w' : World) : Prop where
  below : Below B w w'
  size : w.heap.size ≤ w'.heap.size
  kept : ∀ (k : Nat) (cs : Array Value) (t : Nat) (fz : Nat × Nat), w.heap[k]? = some (.cells cs t fz) → ¬ own k t → w'.heap[k]? = w.heap[k]?
theorem KeepC.refl (B : Nat) (own : Nat → Nat → Prop) (w : World) : KeepC B own w w := ⟨Below.refl _ _, Nat.le_refl _, fun _ _ _ _ _ _ => rfl⟩
theorem KeepC.trans {B : Nat} {own : Nat → Nat → Prop} {a b c : World} (h : KeepC B own a b) (k : KeepC B own b c) : KeepC B own a c :=
  ⟨h.below.trans k.below, Nat.le_trans h.size k.size, fun x cs t fz hx ho => (k.kept x cs t fz ((h.kept x cs t fz hx ho).trans hx) ho).trans (h.kept x cs t fz hx ho)⟩
theorem KeepC.of {B : Nat} {own : Nat → Nat → Prop} {w w' : World} (h : Below w.heap.size w w') (hB : B ≤ w.heap.size) : KeepC B own w w' :=
  ⟨h.mono hB, h.size, fun k _ _ _ hk _ => h.block k (Array.getElem?_eq_some_iff.1 hk).1⟩
theorem KeepC.put {B : Nat} {own : Nat → Nat → Prop} {w : World} (hn : B ≤ w.heap.size) (W : World) (l : Nat) (o o' : Obj) (hl : w.heap.size ≤ l) (h : W.heap[l]? = some o) (hc : o.isCells = false) (hw : o.isWalk = false) : KeepC B own W (W.putObj l o') := by
  refine ⟨belowK_b hn W l o o' hl h hc hw, (grownBy_putObj' W l o').size, fun k cs t fz hk _ => ?_⟩
  refine (grownBy_putObj' W l o').block k (Array.getElem?_eq_some_iff.1 hk).1 ?_
  rintro e
  cases e
  rw [h] at hk
  cases hk
  cases hc
theorem KeepC.owns {B : Nat} {own : Nat → Nat → Prop} {w w' : World} (h : KeepC B own w w') {base size n : Nat} {e' : TypeId} {v : Value} {xs : List Value} (ho : w.ownsRow base e' size v n xs) (h1 : ∀ k, ¬ own k e') : w'.ownsRow base e' size v n xs := by
  refine ⟨ho.1, ?_⟩
  rcases ho.2 with q | ⟨q, cap, cur, hv, hq, hh, r⟩
  · exact .inl q
  · exact .inr ⟨q, cap, cur, hv, hq, by rw [h.kept q _ _ _ hh (h1 q)]; exact hh, r⟩
theorem TabIs.keepC {B B0 g fmt : Nat} {own : Nat → Nat → Prop} {ps : List PartL} {ns : List Nat} {w w' : World} (h : TabIs B g fmt ps ns w) (hk : KeepC B0 own w w') (h1 : ∀ k, ¬ own k 66) (h2 : ∀ k, ¬ own k 74) (h3 : ¬ own g 64) : TabIs B g fmt ps ns w' := by
  obtain ⟨ap, cp, an, cn, e0, e1, e2⟩ := h.is
  exact ⟨ap, cp, an, cn, (hk.kept g _ _ _ e0 h3).trans e0, hk.owns e1 h1, hk.owns e2 h2⟩
/-- A part's glyphs and their numbers, in order. -/
def glyphsP (ns : List Nat) (p : PartL) (d : Nat) : List (Int × Int) := (List.range d).map fun (d : Nat) => ((p.first : Int) + (d : Int), ((ns.getD (p.at_ + p.step * d) 0 : Nat) : Int))
def allL (ns : List Nat) (ps : List PartL) : List (Int × Int) := ps.flatMap fun p => glyphsP ns p (p.last + 1 - p.first)
theorem glyphsP_succ (ns : List Nat) (p : PartL) (d : Nat) : glyphsP ns p (d + 1) = glyphsP ns p d ++ [((p.first : Int) + (d : Int), ((ns.getD (p.at_ + p.step * d) 0 : Nat) : Int))] := by simp [glyphsP, List.range_succ]
theorem allL_succ (ns : List Nat) (ps : List PartL) (k : Nat) (p : PartL) (h : ps[k]? = some p) : allL ns (ps.take (k + 1)) = allL ns (ps.take k) ++ glyphsP ns p (p.last + 1 - p.first) := by
  rw [List.take_add_one, h]; simp [allL]
theorem glyphsP_prefix (ns : List Nat) (p : PartL) {d e : Nat} (h : d ≤ e) : glyphsP ns p d <+: glyphsP ns p e := by
  obtain ⟨m, rfl⟩ : ∃ m, e = d + m := ⟨e - d, by omega⟩
  exact ⟨(List.range' d m).map fun (d : Nat) => ((p.first : Int) + (d : Int), ((ns.getD (p.at_ + p.step * d) 0 : Nat) : Int)), by rw [glyphsP, glyphsP, ← List.map_append, List.range_eq_range', List.range_eq_range', ← List.range'_append_1, Nat.zero_add]⟩
theorem allL_prefix (ns : List Nat) (ps : List PartL) (k : Nat) (p : PartL) (h : ps[k]? = some p) {d : Nat} (hd : d ≤ p.last + 1 - p.first) : allL ns (ps.take k) ++ glyphsP ns p d <+: allL ns ps := by
  have h1 : allL ns (ps.take (k + 1)) <+: allL ns ps := ⟨allL ns (ps.drop (k + 1)), by unfold allL; rw [← List.flatMap_append, List.take_append_drop]⟩
  rw [allL_succ ns ps k p h] at h1
  exact ((List.prefix_append_right_inj _).2 (glyphsP_prefix ns p hd)).trans h1
theorem allL_lt (ns : List Nat) (ps : List PartL) (k : Nat) (p : PartL) (h : ps[k]? = some p) {d : Nat} (hd : d < p.last + 1 - p.first) : (allL ns (ps.take k) ++ glyphsP ns p d).length < (allL ns ps).length := by
  have := (allL_prefix ns ps k p h (show d + 1 ≤ _ from hd)).length_le
  rw [glyphsP_succ] at this
  simp only [List.length_append, List.length_cons, List.length_nil] at this ⊢
  omega
abbrev encG (x : Int × Int) : Array Value := #[.int .i64 x.1, .int .i64 x.2]

theorem abides_below {B : Nat} {J : List (Int × Int) → World → Prop} (h : AbidesFrom B J) {s : List (Int × Int)} {w w' : World} (hj : J s w) (hb : Below w.heap.size w w') : J s w' :=
  h s w w' none hj ⟨hb.os, hb.tape, hb.output, hb.size, fun k hk _ => hb.block k hk⟩ (fun r e => by cases e)
end Go.Proofs.Ythjnpfhcjacibaa
