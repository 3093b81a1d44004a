
/- (*Table).Most. Conditions: a table in memory, its parts rising, its numbers there. -/
import Derived.Test.YthepejljgolcoaaLAll
namespace Go.Proofs.Ythepejljgolcoaa
open Go.RowKit Go.Lib Go.Shelf
attribute [local go_sem] Oper.semAt_some

theorem all_stops (B B0 g fmt Bs : Nat) (own : Nat → Nat → Prop) (ps : List PartL) (ns : List Nat) (w : World) (hT : TabIs B g fmt ps ns w) (hf : FitL ps ns) (hBs : w.heap[Bs]? = some (.cells #[.pointer (some ⟨g, 0, none⟩)] 23 (0, 0)))
    (h1 : ∀ k, ¬ own k 82) (h2 : ∀ k, ¬ own k 110) (h3 : ¬ own g 80) (h4 : ¬ own Bs 23) :
    SeqStopsK Fence.wide 3 Try.prog 33 #[.pointer (some ⟨Bs, 0, none⟩)] encG (KeepC B0 own) (fun ys => ys = allL ns ps) (fun pre => pre <+: allL ns ps) (allL ns ps).length w := fun l J Jx W hW hJ _ hY h0 =>
  all1_any B B0 g fmt Bs own ps ns l J Jx W hJ (fun pre x W1 h1 _ h2 => hY pre x W1 h1 h2) h0 (hT.below hW) hf ((hW.block Bs (Array.getElem?_eq_some_iff.1 hBs).1).trans hBs) h1 h2 h3 h4
theorem heap_kept {A C : World} {row : Option Nat} {k : Nat} {cs : Array Value} {t : Nat} {fz : Nat × Nat} (h : A.heap[k]? = some (.cells cs t fz)) (hg : A.grownBy C row) (hr : ∀ r, row = some r → ∃ o : Obj, A.heap[r]? = some o ∧ o.isCells = false) : C.heap[k]? = some (.cells cs t fz) := by
  refine (hg.block k (Array.getElem?_eq_some_iff.1 h).1 ?_).trans h
  rintro e
  obtain ⟨o, ho, hc⟩ := hr k e.symm
  rw [h] at ho
  cases ho
  cases hc
theorem KeepC.set {B : Nat} {own : Nat → Nat → Prop} {w w' : World} (h : KeepC B own w w') {b o : Nat} (hB : B ≤ b) {cs : Array Value} {t : Nat} {fz : Nat × Nat} (hb : w'.heap[b]? = some (.cells cs t fz)) (ho : own b t) (v : Value) : KeepC B own w (w'.setCell ⟨b, o, none⟩ v) := by
  refine ⟨h.below.setCell (p := ⟨b, o, none⟩) hB v, by simpa using h.size, fun k cs' t' fz' hk hn => ?_⟩
  have := (h.kept k cs' t' fz' hk hn).trans hk
  refine (set_heap_other v ?_).trans (h.kept k cs' t' fz' hk hn)
  rintro rfl
  rw [hb] at this
  cases this
  exact hn ho
def mostL (l : List (Int × Int)) : Int := l.foldl (fun m x => max m x.2) (-1)
theorem mostL_snoc (l : List (Int × Int)) (x : Int × Int) : mostL (l ++ [x]) = max (mostL l) x.2 := by simp [mostL]
set_option maxRecDepth 100000 in
set_option maxHeartbeats 3200000 in
theorem most_any (B g fmt : Nat) (ps : List PartL) (ns : List Nat) (w : World) (h : TabIs B g fmt ps ns w) (hf : FitL ps ns) :
    Calls Try.prog 11 #[.pointer (some ⟨g, 0, none⟩)] w fun e w' => e = .returned (.int .i64 (mostL (allL ns ps))) ∧ Below w.heap.size w w' := by
  refine (callsIn_wide (n := 4)).1 ?_
  refine callsIn_of_wp_marks Try.func11 rfl trivial ?_ rfl
  simp only [Try.ntmps11, List.size_toArray, List.length_cons, List.length_nil, Nat.reduceAdd, Nat.reduceSub, Array.replicate_succ, Array.replicate_zero, List.push_toArray, List.append_toArray, List.nil_append, List.cons_append]
  gi_wp2
  refine ⟨trivial, (callsIn_wide.2 (all_any g _)).mono ?_⟩
  rintro e w1 ⟨rfl, rfl⟩
  gi_wp2
  have hb := heap_new (w.alloc (.cells #[.int .i64 (-1)] 3)) (.pointer (some ⟨g, 0, none⟩)) 23
  rw [World.size_alloc] at hb
  have hB0 : Below w.heap.size w ((w.alloc (.cells #[.int .i64 (-1)] 3)).alloc (.cells #[.pointer (some ⟨g, 0, none⟩)] 23)) := ((Below.refl _ w).alloc (Nat.le_refl _) _).alloc (by simp) _
  have hgl := h.base
  refine wpIn_rangeFunc_ownF rfl (by decide) (gf := 33) (lb := #[.pointer (some ⟨w.heap.size + 1, 0, none⟩)]) rfl trivial (enters_of Try.func33 (by kernel_rfl) rfl)
    (all_stops B w.heap.size g fmt (w.heap.size + 1) (fun k t => k = w.heap.size ∧ t = 3) ps ns _ (h.below hB0) hf hb (fun k hx => absurd hx.2 (by decide)) (fun k hx => absurd hx.2 (by decide)) (fun hx => absurd hx.2 (by decide)) (fun hx => absurd hx.2 (by decide))) (fun h k => KeepC.trans h k) (fun W l o o' hl h hc hw => KeepC.put (by simp; omega) W l o o' hl h hc hw) (Below.refl _ _) (fun _ => rfl)
    (fun pre W => W.heap[w.heap.size]? = some (.cells #[.int .i64 (mostL pre)] 3 (0, 0)) ∧ Below w.heap.size w W)
    (fun _ _ _ => False)
    (OwnFrom.and (show OwnFrom _ (fun (pre : List (Int × Int)) (W : World) => W.heap[w.heap.size]? = some (.cells #[.int .i64 (mostL pre)] 3 (0, 0))) from fun s A C row hs hg hr => heap_kept hs hg (fun r e => (hr r e).2)) (ownFrom_below (Nat.le_refl _) (by simp; omega)))
    (fun _ _ _ _ _ hs _ _ => hs)
    ⟨by rw [heap_push, if_neg (by simp), heap_push, if_pos rfl]; simp [mostL], hB0⟩
    (fun x => { tmps := #[.pointer (some ⟨g, 0, none⟩), undef, .int .i64 0, .pointer (some ⟨w.heap.size, 0, none⟩), undef, .int .i64 x.2, .pointer (some ⟨g, 0, none⟩), .func (.func 33) #[] #[.pointer (some ⟨w.heap.size + 1, 0, none⟩)], .int .i64 x.1, .int .i64 x.2, undef, undef, undef, undef], defers := [] }) ?assign ?body ?done ?stop
  case assign =>
    intro l x W K hK
    gi_wp2
    exact hK
  case body =>
    rintro l pre x W ⟨hh, hB⟩ _
    have hc := cell_of_heap hh 0
    have hf := fun o => froz_of_heap hh o
    simp only [List.getElem?_toArray, List.getElem?_cons_zero] at hc
    have HH := Lib.hid hh
    clear hh
    gi_wp2
    · rename_i hx
      refine ⟨KeepsOthers.setCell _ _ _, (KeepC.refl _ _ W).set (Nat.le_refl _) HH.out ⟨rfl, rfl⟩ _, ?_, hB.setCell (p := ⟨w.heap.size, 0, none⟩) (Nat.le_refl _) _⟩
      rw [mostL_snoc, Int.max_eq_right (by omega)]
      exact set_heap_at _ HH.out
    · rename_i hx
      refine ⟨KeepsOthers.setCell _ _ _, (KeepC.refl _ _ W).set (Nat.le_refl _) HH.out ⟨rfl, rfl⟩ _, ?_, hB.setCell (p := ⟨w.heap.size, 0, none⟩) (Nat.le_refl _) _⟩
      rw [mostL_snoc, Int.max_eq_left (by omega)]
      exact set_heap_at _ HH.out
  case done =>
    rintro D ys W hD rfl ⟨hh, hB⟩ hK
    have hc := cell_of_heap hh 0
    simp only [List.getElem?_toArray, List.getElem?_cons_zero] at hc
    clear hh
    gi_wp2
    refine ⟨by simp, .inl ⟨_, _, rfl, run_takeDeferred hK, ?_⟩⟩
    exact ⟨_, results_tmp rfl _ _ _, rfl, hB.trans (belowK_b (w := w) (Nat.le_refl _) W D _ _ (by simp at hD; omega) hK rfl rfl)⟩
  case stop =>
    rintro D c pre W _ _ h _
    exact h.elim
end Go.Proofs.Ythepejljgolcoaa
