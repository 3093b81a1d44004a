
/- (*line.Line).Turn: the glyphs in turned order. Conditions: a line in memory; sizes. -/
import Derived.Shelf.SlicesQ.Reverse
import Derived.Test.YtjkddbbjbfajaaaGIns
import Derived.Test.YtjkddbbjbfajaaaShelfG
namespace Go.Proofs.Ytjkddbbjbfajaaa
open Go.RowKit Go.Lib Go.Sort

def encG (p : Int × Int) : List Value := [.int .i64 p.1, .int .i64 p.2]
theorem flatK_get (l : List (Int × Int)) (t : Nat) (ht : t < l.length * 2) : (gv l)[t]? = some (flatK encG 2 l.toArray)[t]! := by
  have hd : t / 2 < l.length := by omega
  have hg : l[t / 2]? = some l[t / 2] := List.getElem?_eq_getElem hd
  have e : l.toArray[t / 2]! = l[t / 2] := by rw [getElem!_pos _ _ (by simpa using hd)]; simp
  rw [get_flatK _ _ _ _ (by simpa using ht), e]
  rcases Nat.mod_two_eq_zero_or_one t with h | h
  · have := gv_fst hg
    rw [show t / 2 * 2 = t by omega] at this
    rw [this, h]; rfl
  · have := gv_snd hg
    rw [show t / 2 * 2 + 1 = t by omega] at this
    rw [this, h]; rfl
theorem holdsK_row {w : World} {B n c g : Nat} {l : List (Int × Int)} (h : w.ownsRow B 38 2 (.slice (some ⟨g, 0, none⟩) n c) n (gv l)) (hl : l.length = n) : HoldsK encG 2 w g 0 l.toArray := by
  intro j hj
  have hj' : j < n * 2 := by simpa [hl] using hj
  refine ⟨?_, ?_⟩
  · rw [Nat.zero_add, h.cellAt j hj', flatK_get l j (by omega)]; rfl
  · rw [Nat.zero_add]; exact h.frozenAt j
theorem put_row_owns {w : World} {B n c g q : Nat} {l r : List (Int × Int)} (h : w.ownsRow B 38 2 (.slice (some ⟨g, 0, none⟩) n c) n (gv l)) (hr : r.length = n) :
    (putRowK encG 2 (Sort.ahead w q) g 0 r.toArray).ownsRow B 38 2 (.slice (some ⟨g, 0, none⟩) n c) n (gv r) ∧ RStep B (some ⟨g, 0, none⟩) (some ⟨g, 0, none⟩) w (putRowK encG 2 (Sort.ahead w q) g 0 r.toArray) ∧ (putRowK encG 2 (Sort.ahead w q) g 0 r.toArray).heap.size = w.heap.size := by
  rcases h.2 with ⟨he, _⟩ | ⟨g', cap, cur, he, hB, hh, hnc, hcm, hcs, hct⟩
  · cases he
  · injection he with e1 _ e3
    cases e1
    subst e3
    have hF : (flatK encG 2 r.toArray).size = n * 2 := by simp [hr]
    have hhp : (putRowK encG 2 (Sort.ahead w q) g 0 r.toArray).heap[g]? = some (.cells (Sort.putCells id 0 (flatK encG 2 r.toArray) cur) 38 (0, 0)) := by
      show (w.heap.modify g _)[g]? = _
      rw [Array.getElem?_modify, if_pos rfl, hh]
      rfl
    have hot : ∀ k, k ≠ g → (putRowK encG 2 (Sort.ahead w q) g 0 r.toArray).heap[k]? = w.heap[k]? := fun k hk => by
      show (w.heap.modify g _)[k]? = _
      rw [Array.getElem?_modify, if_neg (Ne.symm hk)]
    have hsz : (putRowK encG 2 (Sort.ahead w q) g 0 r.toArray).heap.size = w.heap.size := by
      show (w.heap.modify g _).size = _
      rw [Array.size_modify]
    refine ⟨⟨by rw [gv_length, hr], .inr ⟨g, c, _, rfl, hB, hhp, hnc, hcm, by simp [Sort.putCells, hcs], ?_⟩⟩, ⟨⟨rfl, rfl, rfl, Nat.le_of_eq hsz.symm, fun k hk => hot k (by omega)⟩, fun k _ hk => hot k (fun e => hk (by rw [e]; rfl)), fun _ hk => .inl hk⟩, hsz⟩
    apply List.ext_getElem?
    intro t
    rw [List.getElem?_take]
    by_cases ht : t < n * 2
    · rw [if_pos ht, flatK_get r t (by rw [hr]; exact ht), Array.getElem?_toList, Sort.putCells, Array.getElem?_mapIdx, Array.getElem?_eq_getElem (by rw [hcs]; omega), Option.map_some, if_pos ⟨Nat.zero_le _, by rw [hF]; omega⟩, Nat.sub_zero]
      rfl
    · rw [if_neg ht, List.getElem?_eq_none (by rw [gv_length, hr]; omega)]
theorem srev_any (B : Nat) (a : Option Addr) (n c : Nat) (l : List (Int × Int)) (w : World) (ho : w.ownsRow B 38 2 (.slice a n c) n (gv l)) (hl : l.length = n) (hn : n ≤ 1000000) :
    Calls Try.prog 32 #[.slice a n c] w fun e w' => e = .returned (.tuple #[]) ∧ w'.ownsRow B 38 2 (.slice a n c) n (gv l.reverse) ∧ RStep B a a w w' ∧ w'.heap.size = w.heap.size := by
  rcases Nat.eq_zero_or_pos n with h0 | h0
  · subst h0
    obtain rfl : l = [] := List.eq_nil_of_length_eq_zero hl
    have hcon := AnyQ.slices_Reverse_empty Try.revGlyphs a c w
    change Calls Try.prog 32 _ _ _ at hcon
    refine hcon.mono ?_
    rintro e w' ⟨rfl, rfl⟩
    exact ⟨rfl, ho, RStep.refl _ _ _, rfl⟩
  · obtain ⟨g, rfl⟩ : ∃ g, a = some ⟨g, 0, none⟩ := by
      rcases ho.2 with ⟨he, h1⟩ | ⟨g5, _, _, he, _⟩
      · omega
      · injection he with e1 e2 e3; exact ⟨g5, e1⟩
    have hcon := AnyQ.slices_Reverse Try.revGlyphs 2 Try.isAgg38 Try.sizeOf38 encG (fun _ => rfl) (fun x v hv => by simp [encG] at hv; rcases hv with rfl | rfl <;> rfl) g 0 c l.toArray w (holdsK_row ho hl) (by simp; omega)
    change Calls Try.prog 32 _ _ _ at hcon
    rw [List.size_toArray, hl] at hcon
    refine hcon.mono ?_
    rintro e w' ⟨rfl, q, rfl⟩
    have e : l.toArray.reverse = l.reverse.toArray := by simp
    rw [e]
    have := put_row_owns (q := q) (r := l.reverse) ho (by rw [List.length_reverse, hl])
    exact ⟨rfl, this.1, this.2.1, this.2.2⟩
set_option maxHeartbeats 800000 in
theorem gturn_any (B g : Nat) (a : Option Addr) (c : Nat) (l : List (Int × Int)) (w : World) (h : GIs B g a c l w) (hn : l.length ≤ 1000000) :
    Calls Try.prog 17 #[.pointer (some ⟨g, 0, none⟩)] w fun e w' => e = .returned (.tuple #[]) ∧ GIs B g a c l.reverse w' ∧ GStep B g a a w w' := by
  have HR := Lib.hid (srev_any B a l.length c l w h.row rfl hn)
  have HG := Lib.hid h
  have q0 := cell_of_heap h.hd 0
  simp only [List.getElem?_toArray, List.getElem?_cons_zero] at q0
  clear h
  have hg := HG.out.hd
  obtain ⟨n, hnl⟩ : ∃ n, n = l.length := ⟨_, rfl⟩
  have HN := Lib.hid hnl
  rw [← hnl] at HR q0 hn
  clear hnl hg
  go_enter Try.func17, Try.ntmps17
  go_wp2_with (go_at_call 32; (with_reducible refine HR.out.mono ?_); rintro e w1 ⟨rfl, ho, hs, hz⟩; have HO := Lib.hid ho; have HS := Lib.hid hs; clear ho hs)
  go_end0
  have hs := HS.out
  have hne := HG.out.ne
  refine ⟨rfl, ⟨?_, ?_⟩, hs.below, fun k hk _ ha => hs.keep k hk ha, hs.new⟩
  · rw [List.length_reverse, hs.keep g (Array.getElem?_eq_some_iff.1 HG.out.hd).1 hne]
    exact HG.out.hd
  · rw [List.length_reverse, ← HN.out]
    exact HO.out
end Go.Proofs.Ytjkddbbjbfajaaa
