
/- What All tells: each glyph that has a number, rising, no other; its iterator over just these. Conditions: as the lemmas say. -/
import Derived.Test.YthepejljgolcoaaLSpeak
namespace Go.Proofs.Ythepejljgolcoaa
open Go.RowKit Go.Lib Go.Shelf

def lastG (l : List (Int × Int)) : Int := (l.getLast?.map (·.1)).getD (-1)
theorem lastG_snoc (l : List (Int × Int)) (x : Int × Int) : lastG (l ++ [x]) = x.1 := by simp [lastG]
theorem mem_glyphsP {ns : List Nat} {p : PartL} {d : Nat} {x : Int × Int} : x ∈ glyphsP ns p d ↔ ∃ i, i < d ∧ x = ((p.first : Int) + (i : Int), ((ns.getD (p.at_ + p.step * i) 0 : Nat) : Int)) := by
  unfold glyphsP
  rw [List.mem_map]
  constructor
  · rintro ⟨i, hi, rfl⟩; exact ⟨i, List.mem_range.1 hi, rfl⟩
  · rintro ⟨i, hi, rfl⟩; exact ⟨i, List.mem_range.2 hi, rfl⟩
theorem mem_allL {ps : List PartL} {ns : List Nat} (hf : FitL ps ns) {x : Int × Int} (hx : x ∈ allL ns ps) : getL ps ns x.1 = (x.2.toNat, true) ∧ ((x.2.toNat : Nat) : Int) = x.2 ∧ 0 ≤ x.1 ∧ x.1 ≤ 70000 := by
  unfold allL at hx
  obtain ⟨p, hp, hx⟩ := List.mem_flatMap.1 hx
  obtain ⟨i, hi, rfl⟩ := mem_glyphsP.1 hx
  have h1 := hf.rising.2 p hp
  have h2 := (hf.ok p hp).2.2
  refine ⟨?_, by simp, by show 0 ≤ (p.first : Int) + (i : Int); omega, by show (p.first : Int) + (i : Int) ≤ 70000; omega⟩
  rw [getL_in hf.rising hp (by show (p.first : Int) ≤ (p.first : Int) + (i : Int); omega) (by show (p.first : Int) + (i : Int) ≤ (p.last : Int); omega)]
  simp only [show ((p.first : Int) + (i : Int) - (p.first : Int)).toNat = i by omega, Int.toNat_natCast]
theorem allL_mem {ps : List PartL} {ns : List Nat} (hf : FitL ps ns) {i : Int} (hi : (getL ps ns i).2 = true) : ∃ x ∈ allL ns ps, x.1 = i := by
  by_cases h : ∃ p ∈ ps, (p.first : Int) ≤ i ∧ i ≤ (p.last : Int)
  · obtain ⟨p, hp, h1, h2⟩ := h
    have h3 := hf.rising.2 p hp
    refine ⟨((p.first : Int) + (((i - p.first).toNat : Nat) : Int), _), List.mem_flatMap.2 ⟨p, hp, mem_glyphsP.2 ⟨(i - p.first).toNat, by omega, rfl⟩⟩, by show (p.first : Int) + _ = i; omega⟩
  · rw [getL_out (fun p hp hx => h ⟨p, hp, hx⟩)] at hi
    cases hi
theorem allL_rises {ps : List PartL} {ns : List Nat} (hr : Rising ps) : (allL ns ps).Pairwise (fun x y => x.1 < y.1) := by
  unfold allL
  rw [List.pairwise_flatMap]
  constructor
  · intro p hp
    unfold glyphsP
    rw [List.pairwise_map]
    exact List.pairwise_lt_range.imp fun {a b} h => by show (p.first : Int) + (a : Int) < (p.first : Int) + (b : Int); omega
  · refine hr.1.imp_of_mem fun {p q} hp hq hpq => ?_
    intro x hx y hy
    obtain ⟨i, hi, rfl⟩ := mem_glyphsP.1 hx
    obtain ⟨j, hj, rfl⟩ := mem_glyphsP.1 hy
    have := hr.2 p hp
    show (p.first : Int) + (i : Int) < (q.first : Int) + (j : Int)
    omega
theorem all_next {ps : List PartL} {ns : List Nat} (hf : FitL ps ns) {pre : List (Int × Int)} {x : Int × Int} (h : pre ++ [x] <+: allL ns ps) : lastG pre < x.1 ∧ ∀ i, lastG pre < i → i < x.1 → (getL ps ns i).2 = false := by
  obtain ⟨rest, hr⟩ := h
  have hp := allL_rises (ns := ns) hf.rising
  rw [← hr, List.append_assoc, List.pairwise_append] at hp
  obtain ⟨p1, p2, p3⟩ := hp
  have hxr : ∀ y ∈ rest, x.1 < y.1 := by
    simp only [List.singleton_append, List.pairwise_cons] at p2
    exact p2.1
  have hlast : ∀ y ∈ pre, y.1 ≤ lastG pre := by
    rcases List.eq_nil_or_concat pre with rfl | ⟨q, z, rfl⟩
    · intro y hy; cases hy
    · intro y hy
      rw [List.concat_eq_append, lastG_snoc]
      rw [List.concat_eq_append] at hy p1
      rcases List.mem_append.1 hy with hy | hy
      · have := (List.pairwise_append.1 p1).2.2 y hy z (by simp)
        omega
      · simp at hy; subst hy; exact Int.le_refl _
  refine ⟨?_, fun i h1 h2 => ?_⟩
  · rcases List.eq_nil_or_concat pre with rfl | ⟨q, z, rfl⟩
    · have hm : x ∈ allL ns ps := by rw [← hr]; simp
      have := (mem_allL hf hm).2.2.1
      simp [lastG]
      omega
    · rw [List.concat_eq_append, lastG_snoc]
      exact p3 z (by simp) x (by simp)
  · cases hb : (getL ps ns i).2 with
    | false => rfl
    | true =>
      obtain ⟨y, hy, rfl⟩ := allL_mem hf hb
      rw [← hr, List.append_assoc] at hy
      rcases List.mem_append.1 hy with hy | hy
      · have := hlast y hy; omega
      · rcases List.mem_append.1 hy with hy | hy
        · simp at hy; subst hy; omega
        · have := hxr y hy; omega
abbrev Gl (ns : List Nat) (ps : List PartL) := { x : Int × Int // x ∈ allL ns ps }
theorem all_stopsA (B B0 g fmt Bs : Nat) (own : Nat → Nat → Prop) (ps : List PartL) (ns : List Nat) (w : World) (hT : TabIs B g fmt ps ns w) (hf : FitL ps ns) (hBs : w.heap[Bs]? = some (.cells #[.pointer (some ⟨g, 0, none⟩)] 23 (0, 0)))
    (h1 : ∀ k, ¬ own k 82) (h2 : ∀ k, ¬ own k 110) (h3 : ¬ own g 80) (h4 : ¬ own Bs 23) :
    SeqStopsK Fence.wide 3 Try.prog 33 #[.pointer (some ⟨Bs, 0, none⟩)] (fun x : Gl ns ps => encG x.1) (KeepC B0 own) (fun ys => ys.map Subtype.val = allL ns ps) (fun pre => pre.map Subtype.val <+: allL ns ps) (allL ns ps).length w := fun l J Jx W hW hJ _ hY h0 => by
  refine (all1_any B B0 g fmt Bs own ps ns l (fun pre W => ∃ q : List (Gl ns ps), q.map Subtype.val = pre ∧ J q W) (fun pre W => ∃ q : List (Gl ns ps), q.map Subtype.val = pre ∧ Jx q W) W ?_ ?_ ⟨[], rfl, h0⟩ (hT.below hW) hf ((hW.block Bs (Array.getElem?_eq_some_iff.1 hBs).1).trans hBs) h1 h2 h3 h4).mono ?_
  · rintro s A C row ⟨q, hq, hj⟩ hg hr
    exact ⟨q, hq, hJ q A C row hj hg hr⟩
  · rintro pre x W1 ⟨q, rfl, hj⟩ hx hl
    refine (hY q ⟨x, hx⟩ W1 hj (by simpa using hl)).mono ?_
    rintro e W' (⟨h1, h2, h3⟩ | ⟨h1, h2⟩)
    · exact .inl ⟨h1, ⟨_, by simp, h2⟩, h3⟩
    · exact .inr ⟨h1, ⟨_, by simp, h2⟩⟩
  · rintro e W' ⟨he, ⟨ys, rfl, q, hq, hj⟩ | ⟨pre, hp, q, hq, hj⟩⟩
    · exact ⟨he, .inl ⟨q, hq, hj⟩⟩
    · exact ⟨he, .inr ⟨q, by show q.map Subtype.val <+: _; rw [hq]; exact hp, hj⟩⟩
theorem owns_kept {A C : World} {row : Option Nat} {base e size n : Nat} {v : Value} {xs : List Value} (h : A.ownsRow base e size v n xs) (hg : A.grownBy C row) (hr : ∀ r, row = some r → ∃ o : Obj, A.heap[r]? = some o ∧ o.isCells = false) : C.ownsRow base e size v n xs := by
  refine ⟨h.1, ?_⟩
  rcases h.2 with q | ⟨q, cap, cur, hv, hq, hh, r⟩
  · exact .inl q
  · exact .inr ⟨q, cap, cur, hv, hq, heap_kept hh hg hr, r⟩
theorem TabIs.grown {B g fmt : Nat} {ps : List PartL} {ns : List Nat} {A C : World} {row : Option Nat} (h : TabIs B g fmt ps ns A) (hg : A.grownBy C row) (hr : ∀ r, row = some r → ∃ o : Obj, A.heap[r]? = some o ∧ o.isCells = false) : TabIs B g fmt ps ns C := by
  obtain ⟨ap, cp, an, cn, e0, e1, e2⟩ := h.is
  exact ⟨ap, cp, an, cn, heap_kept e0 hg hr, owns_kept e1 hg hr, owns_kept e2 hg hr⟩
/-- What the loop's own cells hold when some glyphs have come. -/
structure AllI (W0 : World) (B g fmt : Nat) (ps : List PartL) (ns : List Nat) (few g3 g4 g5 g9 g10 : Nat) (pre : List (Int × Int)) (W : World) : Prop where
  last : W.heap[g9]? = some (.cells #[.int .i64 (lastG pre)] 3 (0, 0))
  n : W.heap[g10]? = some (.cells #[.int .i64 (pre.length : Nat)] 3 (0, 0))
  t : W.heap[g5]? = some (.cells #[.pointer (some ⟨g, 0, none⟩)] 23 (0, 0))
  cf : W.heap[g3]? = some (.cells #[.int .u8 (few : Nat)] 5 (0, 0))
  out : W.heap[g4]? = some (.cells #[.bool false] 4 (0, 0))
  tab : TabIs B g fmt ps ns W
  le : pre.length ≤ few
  bd : -1 ≤ lastG pre ∧ lastG pre ≤ 70000
theorem AllI.grown {W0 : World} {B g fmt : Nat} {ps : List PartL} {ns : List Nat} {few g3 g4 g5 g9 g10 : Nat} {pre : List (Int × Int)} {A C : World} {row : Option Nat} (h : AllI W0 B g fmt ps ns few g3 g4 g5 g9 g10 pre A) (hg : A.grownBy C row) (hr : ∀ r, row = some r → ∃ o : Obj, A.heap[r]? = some o ∧ o.isCells = false) : AllI W0 B g fmt ps ns few g3 g4 g5 g9 g10 pre C :=
  ⟨heap_kept h.last hg hr, heap_kept h.n hg hr, heap_kept h.t hg hr, heap_kept h.cf hg hr, heap_kept h.out hg hr, h.tab.grown hg hr, h.le, h.bd⟩
theorem keepsO {W W' : World} (h : Below W.heap.size W W') : KeepsOthers W W' := ⟨h.size, fun k o hk _ => (h.block k (Array.getElem?_eq_some_iff.1 hk).1).trans hk⟩
attribute [local go_sem] Oper.semAt_some
end Go.Proofs.Ythepejljgolcoaa
