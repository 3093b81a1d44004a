
/- What the features of a font's own say to package pick. Conditions: as each says. -/
import Derived.Test.YtfnghinefbmlmaaPickRF
import Derived.Test.YtfnghinefbmlmaaFeatX
import Derived.Test.YtfnghinefbmlmaaPickN
namespace Go.Proofs.Ytfnghinefbmlmaa
open Go.RowKit Go.Lib

theorem ftV_fents2 (bs : List UInt8) : ∀ (hs : List Nat) (i : Nat), ∃ fs : List FEnt, fs.length = hs.length ∧ ftV bs i hs = fents fs ∧ ∀ k f, fs[k]? = some f → (f.ty = fTy bs (i + k) ∧ f.ex = bt (fFl bs (i + k)) 15) ∧ ∃ a m c, f.s = .slice a m c
  | [], i => ⟨[], rfl, rfl, fun k f h => by simp at h⟩
  | h :: hs, i => by
    obtain ⟨fs, h1, h2, h3⟩ := ftV_fents2 bs hs (i + 1)
    refine ⟨⟨fTy bs i, bt (fFl bs i) 15, dfF (fSb bs i) (fMany bs i) (fFl bs i), .slice (some ⟨h, 0, none⟩) (fMany bs i) (fMany bs i)⟩ :: fs, by simp [h1], by rw [ftV, h2]; rfl, fun k f hk => ?_⟩
    match k with
    | 0 => simp at hk; subst hk; exact ⟨⟨rfl, rfl⟩, _, _, _, rfl⟩
    | k + 1 =>
      have := h3 k f (by simpa using hk)
      rwa [show i + 1 + k = i + (k + 1) by omega] at this
theorem exR_same (n : Int) : ∀ (a b : List FEnt), (a.map fun f => (f.ty, f.ex)) = (b.map fun f => (f.ty, f.ex)) → exR a n = exR b n
  | [], [], _ => rfl
  | [], y :: b, h => by simp at h
  | x :: a, [], h => by simp at h
  | x :: a, y :: b, h => by
    simp only [List.map_cons, List.cons.injEq, Prod.mk.injEq] at h
    rw [exR_cons, exR_cons, exR_same n a b h.2, h.1.1, h.1.2]
theorem riseT_lt {bs : List UInt8} {N : Nat} (h : RiseT bs N) : ∀ (j i : Nat), i < j → j < N → fTy bs i < fTy bs j
  | 0, i, h1, _ => by omega
  | j + 1, i, h1, h2 => by
    have hl := h j h2
    rcases Nat.lt_or_ge i j with g | g
    · exact Nat.lt_trans (riseT_lt h j i g (by omega)) hl
    · obtain rfl : i = j := by omega
      exact hl
theorem tyEx_diff {bs : List UInt8} {fs : List FEnt} (h : TyEx bs fs) (hr : RiseT bs fs.length) : Diff fs := by
  rw [Diff, List.pairwise_iff_getElem]
  intro i j hi hj hij
  have h1 := (h i fs[i] (List.getElem?_eq_getElem hi)).1
  have h2 := (h j fs[j] (List.getElem?_eq_getElem hj)).1
  have := riseT_lt hr j i hij hj
  omega
theorem tyEx_same {bs : List UInt8} {fs gs : List FEnt} (h : TyEx bs fs) (g : TyEx bs gs) (hl : fs.length = gs.length) : (fs.map fun f => (f.ty, f.ex)) = (gs.map fun f => (f.ty, f.ex)) := by
  apply List.ext_getElem (by simp [hl])
  intro i h1 h2
  simp only [List.length_map] at h1 h2
  have e1 := h i fs[i] (List.getElem?_eq_getElem h1)
  have e2 := g i gs[i] (List.getElem?_eq_getElem h2)
  simp only [List.getElem_map]
  rw [e1.1, e1.2, e2.1, e2.2]
theorem setsF_le7 {ps : List PlanF} (hb : PlB ps) : (setsF ps).length ≤ 7200 := by
  have := offF_le hb ps.length
  unfold offF at this
  rwa [List.take_of_length_le (Nat.le_refl _)] at this
theorem write_ref {ps : List PlanF} (hb : PlB ps) : FRefOk (writeF ps) ps.length := by
  have hn : num (writeF ps) 4 2 = ps.length := writeF_n ps (by have := hb.few; omega)
  have h7 := setsF_le7 hb
  have hf := hb.few
  refine ⟨by rw [writeF_length]; omega, by rw [writeF_length]; omega, writeF_ver ps, hn, hf, by rw [writeF_length]; omega, fun i hi => ?_, fun i hi => ?_⟩
  · have hp := List.getElem?_eq_getElem hi
    have e := congrArg List.length (sets_split hp)
    simp only [List.length_append, setBy_length] at e
    unfold setsOk
    rw [w_from hb hp, w_many hb hp, writeF_length]
    unfold offF
    omega
  · have hp := List.getElem?_eq_getElem hi
    rw [w_many hb hp]
    exact (hb.each _ (List.getElem_mem hi)).2.2.1
theorem ftOk_iff {bs : List UInt8} {N : Nat} (h : FRefOk bs N) : FtOk bs ↔ RiseT bs N :=
  ⟨fun k => by have := k.rise; rwa [h.n] at this, fun k => ⟨h.len, h.ver, by rw [h.n]; exact h.rows, by rw [h.n]; exact k, by rw [h.n]; exact h.sets⟩⟩
/-- Both answers' features, in memory. -/
theorem both_ok {bs : List UInt8} {N : Nat} {w : World} {B g : Nat} {hs : List Nat} {a2 : Option Addr} {c2 : Nat} {gs : List FEnt} (h : FRefOk bs N) (hr : RiseT bs N) (hrow : w.ownsRow B 36 4 (.slice (some ⟨g, 0, none⟩) N N) N (ftV bs 0 hs)) (hl : hs.length = N) (h2 : Has w a2 (fents gs)) (hgl : gs.length = N) (hgt : TyEx bs gs) :
    ∃ fs : List FEnt, FeOk w (some ⟨g, 0, none⟩) N N fs ∧ RfOk w a2 N c2 gs (exF fs) := by
  obtain ⟨fs, f1, f2, f3⟩ := ftV_fents2 bs hs 0
  have hft : TyEx bs fs := fun k f hf => by
    have := (f3 k f hf).1
    rwa [Nat.zero_add] at this
  have hfl : fs.length = N := f1.trans hl
  have hN := h.few
  refine ⟨fs, ⟨f2 ▸ has_of_owns hrow, hfl, by omega, fun f hf => ?_⟩, ⟨h2, hgl, by omega, fun k => ?_⟩⟩
  · obtain ⟨i, hi⟩ := List.getElem?_of_mem hf
    refine ⟨?_, (f3 i f hi).2⟩
    rw [(hft i f hi).1]
    exact num2_max _ _
  · rw [← diff_ex (tyEx_diff hft (by rw [hfl]; exact hr)) k]
    exact exR_same k gs fs (tyEx_same hgt hft (hgl.trans hfl.symm))
structure PlAt (wr : World) (bE oE k : Nat) (p : PlanF) : Prop where
  c0 : wr.cell? ⟨bE, oE + k * 3, none⟩ = some (.int .u16 (p.ty : Nat))
  c1 : wr.cell? ⟨bE, oE + k * 3 + 1, none⟩ = some (.int .u16 (p.fl : Nat))
  c2 : wr.cell? ⟨bE, oE + k * 3 + 2, none⟩ = some (.slice p.a p.ss.length p.c)
theorem pl_at {w : World} {la : Option Addr} {ps : List PlanF} (h : Has w la (plansF ps)) {k : Nat} {p : PlanF} (hp : ps[k]? = some p) : ∃ bE oE, la = some ⟨bE, oE, none⟩ ∧ bE < w.heap.size ∧ PlAt w bE oE k p := by
  have g0 := plansF_get ps k p hp 0 (by omega)
  obtain ⟨bE, oE, rfl, h2, hc⟩ := h.get (by
    rcases Nat.eq_zero_or_pos (plansF ps).length with g | g
    · rw [List.getElem?_eq_none (by omega)] at g0
      simp [PlanF.enc] at g0
    · exact g)
  refine ⟨bE, oE, rfl, h2, hc (k * 3) _ g0, ?_, ?_⟩
  · have := hc (k * 3 + 1) _ (plansF_get ps k p hp 1 (by omega)); rwa [← Nat.add_assoc] at this
  · have := hc (k * 3 + 2) _ (plansF_get ps k p hp 2 (by omega)); rwa [← Nat.add_assoc] at this
theorem choice_set {rs : List St} (h : SetS (exF []) [(1, 2)] rs) : rs = [(1, 2)] := by
  refine h.one ⟨List.pairwise_singleton _ _, fun t => ?_⟩
  have h2 := on_snoc (exF []) [] (1, 2) t
  have r1 : rightS (1, 2) = true := by decide
  simp only [List.nil_append] at h2
  rw [h2, r1, on_nil, List.mem_singleton]
  constructor
  · rintro rfl
    rfl
  · intro h
    split at h
    · simpa using (beq_iff_eq.1 h).symm
    · cases h
theorem choice_speaks (w : World) : Calls Try.prog 17 #[.slice (some ⟨w.heap.size, 0, none⟩) 1 1, .slice none 0 0] (w.alloc (.cells #[.int .i64 1, .int .i64 2] 44)) fun e w' => (∃ (a' : Option Addr) (c' : Nat), e = .returned (.slice a' 1 c')) ∧ Below w.heap.size w w' := by
  have hb := balloc (brefl w) (.cells #[.int .i64 1, .int .i64 2] 44)
  refine (settle_any (some ⟨w.heap.size, 0, none⟩) 1 1 [(1, 2)] none 0 0 [] _ ⟨has_alloc _ _ _, rfl, by decide, fun s hs => by
    simp only [List.mem_cons, List.not_mem_nil, or_false] at hs
    subst hs; exact ⟨wfI_small (by decide), wfI_small (by decide)⟩⟩ (fe_none _)).mono ?_
  rintro e w' ⟨a', m, c', rs, rfl, hs, hset, _, hmc, _, _, hb'⟩
  obtain rfl := choice_set hset
  obtain rfl : 1 = m := hs.len
  exact ⟨⟨a', c', rfl⟩, hb.trans (hb'.mono hb.size)⟩
/-- Two that stand side by side change places. -/
def swapL (l : List St) (i : Nat) (x y : St) : List St := (l.set i y).set (i + 1) x
theorem swapL_last {ex : Int → Bool} {l : List St} {i : Nat} {x y : St} (hx : l[i]? = some x) (hy : l[i + 1]? = some y) (h : overS ex x y = false) (k : St) : lastS ex (swapL l i x y) k = lastS ex l k := by
  obtain ⟨h1, e1⟩ := List.getElem?_eq_some_iff.1 hx
  obtain ⟨h2, e2⟩ := List.getElem?_eq_some_iff.1 hy
  have ed : l.drop i = x :: y :: l.drop (i + 2) := by rw [List.drop_eq_getElem_cons h1, List.drop_eq_getElem_cons h2, e1, e2]
  have el : l = l.take i ++ x :: y :: l.drop (i + 2) := by rw [← ed]; exact (List.take_append_drop i l).symm
  have es : swapL l i x y = l.take i ++ y :: x :: l.drop (i + 2) := by
    unfold swapL
    apply List.ext_getElem?
    intro j
    rw [List.getElem?_set, List.getElem?_set]
    rcases Nat.lt_trichotomy j i with g | g | g
    · rw [if_neg (by omega), if_neg (by omega), List.getElem?_append_left (by simp; omega), List.getElem?_take, if_pos g]
    · subst g
      rw [if_neg (by omega), if_pos rfl, if_pos h1, List.getElem?_append_right (by simp; omega)]
      simp [Nat.min_eq_left (Nat.le_of_lt h1)]
    · rw [List.getElem?_append_right (by simp; omega)]
      simp only [List.length_take, Nat.min_eq_left (Nat.le_of_lt h1)]
      rcases Nat.lt_or_ge j (i + 2) with g2 | g2
      · obtain rfl : j = i + 1 := by omega
        rw [if_pos rfl, if_pos (by simpa using h2), show i + 1 - i = 1 by omega]
        rfl
      · rw [if_neg (by omega), if_neg (by omega), show j - i = (j - i - 2) + 1 + 1 by omega, List.getElem?_cons_succ, List.getElem?_cons_succ, List.getElem?_drop]
        congr 1
        omega
  rw [es]
  conv => rhs; rw [el]
  exact (last_swap _ _ h k).symm
theorem swapL_wf {l : List St} {i : Nat} {x y : St} (h : ∀ s ∈ l, wfS s) (hx : wfS x) (hy : wfS y) : ∀ s ∈ swapL l i x y, wfS s := fun s hs => by
  rcases List.mem_or_eq_of_mem_set hs with hs | rfl
  · rcases List.mem_or_eq_of_mem_set hs with hs | rfl
    · exact h s hs
    · exact hy
  · exact hx
theorem swapL_length (l : List St) (i : Nat) (x y : St) : (swapL l i x y).length = l.length := by simp [swapL]
end Go.Proofs.Ytfnghinefbmlmaa
