/- Joined from: HPure HTake HRead HSpk. -/
import Derived.Test.YthehcbbdkiomnaaJ04
import Derived.Test.YthehcbbdkiomnaaJ08
import Derived.Test.YthehcbbdkiomnaaJ01
import Derived.Test.YthehcbbdkiomnaaJ05
section

/- Chains as their law writes them are read as they were written; a table that lacks its last bytes is none. No walk. Conditions: numbers of two and four bytes; sizes. -/
namespace Go.Proofs.Ythehcbbdkiomnaa
open Go.RowKit Go.Lib

theorem numb2 (z : Nat) (Z : List UInt8) (h : z < 65536) : num (beN 2 z ++ Z) 0 2 = z := by
  simp [beN, num2, UInt8.toNat_ofNat']
  omega
theorem numb4 (z : Nat) (Z : List UInt8) (h : z < 4294967296) : num (beN 4 z ++ Z) 0 4 = z := by
  simp [beN, num4, UInt8.toNat_ofNat']
  omega
theorem numAp (A B : List UInt8) (n k s : Nat) (h : A.length = n) : num (A ++ B) (n + k) s = num B k s := by
  rw [← num_dp, ← h, List.drop_left]
/-- What the numbers behind a place are. -/
theorem numAt {L R : List UInt8} {p : Nat} (h : L.drop p = R) (k s : Nat) : num L (p + k) s = num R k s := by rw [← h, num_dp]
theorem numAt0 {L R : List UInt8} {p : Nat} (h : L.drop p = R) (s : Nat) : num L p s = num R 0 s := by
  have := numAt h 0 s
  rwa [Nat.add_zero] at this
structure LCh.Wf (p : LCh) : Prop where
  first : p.first ≤ 4294967295
  rules : ∀ r ∈ p.rules, r.t ≤ 65535 ∧ r.v ≤ 65535 ∧ r.en ≤ 4294967295 ∧ r.di ≤ 4294967295
  subs : ∀ s ∈ p.subs, s.co ≤ 4294967295 ∧ s.fl ≤ 4294967295
theorem LCh.Ok.wf {w : World} {p : LCh} (h : p.Ok w) : p.Wf := ⟨h.first, h.rules, fun s hs => ⟨(h.subs s hs).1, (h.subs s hs).2.1⟩⟩
theorem ru_at {L T : List UInt8} {p : Nat} {r : RuD} (h : L.drop p = ruB r ++ T) (hr : r.t ≤ 65535 ∧ r.v ≤ 65535 ∧ r.en ≤ 4294967295 ∧ r.di ≤ 4294967295) : ruD L p = r := by
  obtain ⟨t, v, en, di⟩ := r
  simp only at hr
  unfold ruB at h
  simp only [List.append_assoc] at h
  unfold ruD
  rw [numAt0 h, numAt h, numAt h, numAt h, numb2 _ _ (by omega),
    show (2 : Nat) = 2 + 0 from rfl, numAp _ _ 2 0 2 (beN_length _ _), numb2 _ _ (by omega),
    show (4 : Nat) = 2 + 2 from rfl, numAp _ _ 2 2 4 (beN_length _ _)]
  rw [show num (beN 2 v ++ (beN 4 en ++ (beN 4 di ++ T))) 2 4 = en from by
    rw [show (2 : Nat) = 2 + 0 from rfl, numAp _ _ 2 0 4 (beN_length _ _), numb4 _ _ (by omega)]]
  rw [show num (beN 2 t ++ (beN 2 v ++ (beN 4 en ++ (beN 4 di ++ T)))) 8 4 = di from by
    rw [show (8 : Nat) = 2 + 6 from rfl, numAp _ _ 2 6 4 (beN_length _ _), show (6 : Nat) = 2 + 4 from rfl, numAp _ _ 2 4 4 (beN_length _ _), show (4 : Nat) = 4 + 0 from rfl, numAp _ _ 4 0 4 (beN_length _ _), numb4 _ _ (by omega)]]
theorem rus_drop : ∀ (l : List RuD) (i : Nat) (T : List UInt8), i ≤ l.length → (rusB l ++ T).drop (12 * i) = rusB (l.drop i) ++ T
  | l, 0, T, _ => rfl
  | [], i + 1, T, h => by simp at h
  | r :: l, i + 1, T, h => by
    have e : rusB (r :: l) ++ T = ruB r ++ (rusB l ++ T) := by simp [rusB]
    rw [e, show 12 * (i + 1) = 12 + 12 * i by omega, ← List.drop_drop, List.drop_left' (ruB_length r), rus_drop l i T (by simpa using h)]
    rfl
section
variable {p : LCh} (hw : p.Wf) (hf : p.Few)
include hw hf
theorem chB_nums (T : List UInt8) : num (chB p ++ T) 0 4 = p.first ∧ num (chB p ++ T) 4 4 = (chB p).length ∧ num (chB p ++ T) 8 4 = p.rules.length ∧ num (chB p ++ T) 12 4 = p.subs.length := by
  have h1 := inB_le hf
  have h2 := hf.rules
  have h3 := hf.subs
  have h4 := hw.first
  have e : chB p ++ T = beN 4 p.first ++ (beN 4 (16 + (inB p).length) ++ (beN 4 p.rules.length ++ (beN 4 p.subs.length ++ (inB p ++ T)))) := by unfold chB; simp only [List.append_assoc]
  rw [e]
  refine ⟨numb4 _ _ (by omega), ?_, ?_, ?_⟩
  · rw [show (4 : Nat) = 4 + 0 from rfl, numAp _ _ 4 0 _ (beN_length _ _), chB_length]
    exact numb4 _ _ (by omega)
  · rw [show (8 : Nat) = 4 + 4 from rfl, numAp _ _ 4 4 _ (beN_length _ _), show (4 : Nat) = 4 + 0 from rfl, numAp _ _ 4 0 _ (beN_length _ _)]
    exact numb4 _ _ (by omega)
  · rw [show (12 : Nat) = 4 + 8 from rfl, numAp _ _ 4 8 _ (beN_length _ _), show (8 : Nat) = 4 + 4 from rfl, numAp _ _ 4 4 _ (beN_length _ _), show (4 : Nat) = 4 + 0 from rfl, numAp _ _ 4 0 _ (beN_length _ _)]
    exact numb4 _ _ (by omega)
omit hw hf in
theorem chB_drop : (chB p).drop 16 = inB p := by
  unfold chB
  exact List.drop_left' (by simp only [List.length_append, beN_length])
omit hw hf in
theorem chB_rules (i : Nat) (h : i ≤ p.rules.length) : (chB p).drop (16 + 12 * i) = rusB (p.rules.drop i) ++ (sbsB p.subs ++ List.replicate (p.more % 8) 0) := by
  rw [← List.drop_drop, chB_drop]
  unfold inB
  rw [List.append_assoc, rus_drop _ _ _ h]
omit hw in
theorem chB_pos : ∀ k, k ≤ p.subs.length → (chB p).drop (posS (chB p) (16 + 12 * p.rules.length) k) = sbsB (p.subs.drop k) ++ List.replicate (p.more % 8) 0 ∧ posS (chB p) (16 + 12 * p.rules.length) k ≤ (chB p).length
  | 0, _ => by
    refine ⟨?_, ?_⟩
    · have := chB_rules (p := p) p.rules.length (Nat.le_refl _)
      rw [List.drop_of_length_le (Nat.le_refl _)] at this
      exact this
    · show 16 + 12 * p.rules.length ≤ _
      rw [chB_length, inB_length]
      omega
  | k + 1, hk => by
    obtain ⟨h1, h2⟩ := chB_pos k (by omega)
    obtain ⟨s, hs⟩ : ∃ s, p.subs[k]? = some s := ⟨_, List.getElem?_eq_getElem (by omega)⟩
    have hd : p.subs.drop k = s :: p.subs.drop (k + 1) := by
      rw [List.drop_eq_getElem_cons (by omega)]
      congr 1
      exact (List.getElem?_eq_some_iff.1 hs).2
    have hsl := hf.data s (List.mem_of_getElem? hs)
    rw [hd] at h1
    have e : sbsB (s :: p.subs.drop (k + 1)) ++ List.replicate (p.more % 8) 0 = sbB s ++ (sbsB (p.subs.drop (k + 1)) ++ List.replicate (p.more % 8) 0) := by simp [sbsB]
    rw [e] at h1
    have hn : num (chB p) (posS (chB p) (16 + 12 * p.rules.length) k) 4 = (sbB s).length := by
      rw [numAt0 h1, sbB_length]
      unfold sbB
      simp only [List.append_assoc]
      exact numb4 _ _ (by omega)
    have hl : (chB p).length - posS (chB p) (16 + 12 * p.rules.length) k ≥ (sbB s).length := by
      have := congrArg List.length h1
      rw [List.length_drop, List.length_append] at this
      omega
    show (chB p).drop (posS (chB p) (16 + 12 * p.rules.length) k + num (chB p) (posS (chB p) (16 + 12 * p.rules.length) k) 4) = _ ∧ posS (chB p) (16 + 12 * p.rules.length) k + num (chB p) (posS (chB p) (16 + 12 * p.rules.length) k) 4 ≤ _
    rw [hn]
    refine ⟨?_, by omega⟩
    rw [← List.drop_drop, h1, List.drop_left]
theorem chB_sub (k : Nat) (s : LSub) (hs : p.subs[k]? = some s) : fitS (chB p) (posS (chB p) (16 + 12 * p.rules.length) k) ∧ subD (chB p) (posS (chB p) (16 + 12 * p.rules.length) k) = s.d := by
  have hk := (List.getElem?_eq_some_iff.1 hs).1
  obtain ⟨h1, h2⟩ := chB_pos hf k (by omega)
  have hd : p.subs.drop k = s :: p.subs.drop (k + 1) := by
    rw [List.drop_eq_getElem_cons (by omega)]
    congr 1
    exact (List.getElem?_eq_some_iff.1 hs).2
  have hsl := hf.data s (List.mem_of_getElem? hs)
  obtain ⟨w1, w2⟩ := hw.subs s (List.mem_of_getElem? hs)
  rw [hd] at h1
  have e : sbsB (s :: p.subs.drop (k + 1)) ++ List.replicate (p.more % 8) 0 = beN 4 (12 + s.bs.length) ++ (beN 4 s.co ++ (beN 4 s.fl ++ (s.bs ++ (sbsB (p.subs.drop (k + 1)) ++ List.replicate (p.more % 8) 0)))) := by simp [sbsB, sbB]
  rw [e] at h1
  generalize posS (chB p) (16 + 12 * p.rules.length) k = P at *
  have hn : num (chB p) P 4 = 12 + s.bs.length := by
    rw [numAt0 h1]
    exact numb4 _ _ (by omega)
  have hc : num (chB p) (P + 4) 4 = s.co := by
    rw [numAt h1, show (4 : Nat) = 4 + 0 from rfl, numAp _ _ 4 0 _ (beN_length _ _)]
    exact numb4 _ _ (by omega)
  have hfl : num (chB p) (P + 8) 4 = s.fl := by
    rw [numAt h1, show (8 : Nat) = 4 + 4 from rfl, numAp _ _ 4 4 _ (beN_length _ _), show (4 : Nat) = 4 + 0 from rfl, numAp _ _ 4 0 _ (beN_length _ _)]
    exact numb4 _ _ (by omega)
  have hdd : (chB p).drop (P + 12) = s.bs ++ (sbsB (p.subs.drop (k + 1)) ++ List.replicate (p.more % 8) 0) := by
    rw [← List.drop_drop, h1, show (12 : Nat) = 4 + (4 + 4) from rfl, ← List.drop_drop, List.drop_left' (beN_length _ _), ← List.drop_drop, List.drop_left' (beN_length _ _), List.drop_left' (beN_length _ _)]
  have hl := congrArg List.length h1
  rw [List.length_drop] at hl
  simp only [List.length_append, beN_length] at hl
  refine ⟨⟨by omega, by omega, by omega⟩, ?_⟩
  unfold subD
  rw [hc, hfl, hn, hdd, Nat.add_sub_cancel_left, List.take_left]
  rfl
theorem chB_ok : ChOk (chB p) ∧ chD (chB p) = p.d := by
  obtain ⟨n0, _, n8, n12⟩ := chB_nums hw hf []
  rw [List.append_nil] at n0 n8 n12
  refine ⟨⟨by rw [chB_length]; omega, by rw [n8, chB_length, inB_length]; omega, fun k hk => ?_⟩, ?_⟩
  · rw [n12] at hk
    rw [n8]
    exact (chB_sub hw hf k _ (List.getElem?_eq_getElem hk)).1
  · unfold chD
    rw [n0, n8, n12]
    have hr : rulesD (chB p) p.rules.length = p.rules := by
      apply List.ext_getElem?
      intro i
      unfold rulesD
      rw [List.getElem?_map]
      by_cases hi : i < p.rules.length
      · rw [List.getElem?_range hi, List.getElem?_eq_getElem hi]
        have hd : p.rules.drop i = p.rules[i] :: p.rules.drop (i + 1) := List.drop_eq_getElem_cons hi
        have h1 := chB_rules (p := p) i (by omega)
        rw [hd] at h1
        have e : rusB (p.rules[i] :: p.rules.drop (i + 1)) ++ (sbsB p.subs ++ List.replicate (p.more % 8) 0) = ruB p.rules[i] ++ (rusB (p.rules.drop (i + 1)) ++ (sbsB p.subs ++ List.replicate (p.more % 8) 0)) := by
          rw [show rusB (p.rules[i] :: p.rules.drop (i + 1)) = ruB p.rules[i] ++ rusB (p.rules.drop (i + 1)) from rfl, List.append_assoc]
        rw [e] at h1
        exact congrArg some (ru_at h1 (hw.rules _ (List.getElem_mem hi)))
      · rw [List.getElem?_eq_none (by rw [List.length_range]; omega), List.getElem?_eq_none (by omega)]
        rfl
    have hs : subsD (chB p) p.subs.length = p.subs.map LSub.d := by
      apply List.ext_getElem?
      intro i
      unfold subsD
      rw [List.getElem?_map, List.getElem?_map, n8]
      by_cases hi : i < p.subs.length
      · rw [List.getElem?_range hi, List.getElem?_eq_getElem hi]
        exact congrArg some (chB_sub hw hf i _ (List.getElem?_eq_getElem hi)).2
      · rw [List.getElem?_eq_none (by rw [List.length_range]; omega), List.getElem?_eq_none (by omega)]
        rfl
    rw [hr, hs]
    rfl
end
/-- What a table is: its chains, and whatever stands behind them. -/
theorem chs_head (ps : List LCh) (T : List UInt8) (h10 : ps.length ≤ 10) : num (chsB ps ++ T) 0 2 = 2 ∧ num (chsB ps ++ T) 4 4 = ps.length ∧ (chsB ps ++ T).drop 8 = chsL ps ++ T := by
  have e : chsB ps ++ T = beN 2 2 ++ (beN 2 0 ++ (beN 4 ps.length ++ (chsL ps ++ T))) := by unfold chsB headC; simp only [List.append_assoc]
  rw [e]
  refine ⟨numb2 _ _ (by decide), ?_, ?_⟩
  · rw [show (4 : Nat) = 2 + 2 from rfl, numAp _ _ 2 2 _ (beN_length _ _), show (2 : Nat) = 2 + 0 from rfl, numAp _ _ 2 0 _ (beN_length _ _)]
    exact numb4 _ _ (by omega)
  · rw [show (8 : Nat) = 2 + (2 + 4) from rfl, ← List.drop_drop, List.drop_left' (beN_length _ _), ← List.drop_drop, List.drop_left' (beN_length _ _), List.drop_left' (beN_length _ _)]
section
variable {ps : List LCh} (T : List UInt8) (hw : ∀ p ∈ ps, p.Wf) (hf : ∀ p ∈ ps, p.Few) (h10 : ps.length ≤ 10)
include hw hf h10
theorem chs_pos : ∀ k, k ≤ ps.length → (chsB ps ++ T).drop (posC (chsB ps ++ T) k) = chsL (ps.drop k) ++ T ∧ posC (chsB ps ++ T) k ≤ (chsB ps ++ T).length
  | 0, _ => ⟨(chs_head ps T h10).2.2, by show 8 ≤ _; rw [List.length_append, chsB_length]; omega⟩
  | k + 1, hk => by
    obtain ⟨h1, h2⟩ := chs_pos k (by omega)
    obtain ⟨p, hp⟩ : ∃ p, ps[k]? = some p := ⟨_, List.getElem?_eq_getElem (by omega)⟩
    have hd : ps.drop k = p :: ps.drop (k + 1) := by
      rw [List.drop_eq_getElem_cons (by omega)]
      congr 1
      exact (List.getElem?_eq_some_iff.1 hp).2
    rw [hd] at h1
    have e : chsL (p :: ps.drop (k + 1)) ++ T = chB p ++ (chsL (ps.drop (k + 1)) ++ T) := by simp [chsL]
    rw [e] at h1
    have hn : num (chsB ps ++ T) (posC (chsB ps ++ T) k + 4) 4 = (chB p).length := by
      rw [numAt h1]
      exact (chB_nums (hw p (List.mem_of_getElem? hp)) (hf p (List.mem_of_getElem? hp)) _).2.1
    have hl := congrArg List.length h1
    rw [List.length_drop, show (chB p ++ (chsL (ps.drop (k + 1)) ++ T)).length = (chB p).length + (chsL (ps.drop (k + 1)) ++ T).length from List.length_append] at hl
    show (chsB ps ++ T).drop (posC (chsB ps ++ T) k + num (chsB ps ++ T) (posC (chsB ps ++ T) k + 4) 4) = _ ∧ posC (chsB ps ++ T) k + num (chsB ps ++ T) (posC (chsB ps ++ T) k + 4) 4 ≤ _
    rw [hn]
    refine ⟨?_, by omega⟩
    rw [← List.drop_drop, h1, List.drop_left]
theorem chs_each (k : Nat) (p : LCh) (hp : ps[k]? = some p) : fitC (chsB ps ++ T) (posC (chsB ps ++ T) k) ∧ ownC (chsB ps ++ T) (posC (chsB ps ++ T) k) = chB p := by
  have hk := (List.getElem?_eq_some_iff.1 hp).1
  obtain ⟨h1, h2⟩ := chs_pos T hw hf h10 k (by omega)
  have hd : ps.drop k = p :: ps.drop (k + 1) := by
    rw [List.drop_eq_getElem_cons (by omega)]
    congr 1
    exact (List.getElem?_eq_some_iff.1 hp).2
  rw [hd] at h1
  have e : chsL (p :: ps.drop (k + 1)) ++ T = chB p ++ (chsL (ps.drop (k + 1)) ++ T) := by simp [chsL]
  rw [e] at h1
  have hn : num (chsB ps ++ T) (posC (chsB ps ++ T) k + 4) 4 = (chB p).length := by
    rw [numAt h1]
    exact (chB_nums (hw p (List.mem_of_getElem? hp)) (hf p (List.mem_of_getElem? hp)) _).2.1
  have hl := congrArg List.length h1
  rw [List.length_drop, show (chB p ++ (chsL (ps.drop (k + 1)) ++ T)).length = (chB p).length + (chsL (ps.drop (k + 1)) ++ T).length from List.length_append] at hl
  have ho : ownC (chsB ps ++ T) (posC (chsB ps ++ T) k) = chB p := by
    unfold ownC
    rw [hn, h1, List.take_left]
  have hc := chB_length p
  refine ⟨⟨by omega, by omega, by omega, ?_⟩, ho⟩
  rw [ho]
  exact (chB_ok (hw p (List.mem_of_getElem? hp)) (hf p (List.mem_of_getElem? hp))).1
/-- THERE AND BACK, as bytes. -/
theorem chs_back : CsOk (chsB ps ++ T) ∧ csD (chsB ps ++ T) (num (chsB ps ++ T) 4 4) = ps.map LCh.d := by
  obtain ⟨n0, n4, _⟩ := chs_head ps T h10
  refine ⟨⟨by rw [List.length_append, chsB_length]; omega, .inl n0, fun k hk => ?_⟩, ?_⟩
  · rw [n4] at hk
    exact (chs_each T hw hf h10 k _ (List.getElem?_eq_getElem hk)).1
  · rw [n4]
    apply List.ext_getElem?
    intro i
    unfold csD
    rw [List.getElem?_map, List.getElem?_map]
    by_cases hi : i < ps.length
    · rw [List.getElem?_range hi, List.getElem?_eq_getElem hi]
      have := (chs_each T hw hf h10 i _ (List.getElem?_eq_getElem hi)).2
      show some (chD _) = some _
      rw [this, (chB_ok (hw _ (List.getElem_mem hi)) (hf _ (List.getElem_mem hi))).2]
    · rw [List.getElem?_eq_none (by rw [List.length_range]; omega), List.getElem?_eq_none (by omega)]
      rfl
omit T in
end
end Go.Proofs.Ythehcbbdkiomnaa
end
section

/- chain.Take: all chains of a table. Conditions: as many bytes as the slice says, no more than a hundred million. -/
namespace Go.Proofs.Ythehcbbdkiomnaa
open Go.RowKit Go.Lib

theorem info_chain : (Try.prog.info? 80).map (fun i => (i.zero, i.size, i.bytes)) = some (some (.agg #[.int .u32 0, .slice none 0 0, .slice none 0 0]), 3, 56) := by kernel_rfl
/-- Chains in memory. -/
structure ChsIs (L B : Nat) (ao : Option Addr) (co : Nat) (rs : List ChR) (w : World) : Prop where
  row : w.ownsRow B 80 3 (.slice ao rs.length co) rs.length (chRV rs)
  each : ∀ r ∈ rs, r.Is L w
theorem ChsIs.below {L B co : Nat} {ao : Option Addr} {rs : List ChR} {w w' : World} (h : ChsIs L B ao co rs w) (hb : Below w.heap.size w w') : ChsIs L B ao co rs w' := ⟨owns_below h.row hb (Nat.le_refl _), fun r hr => (h.each r hr).below hb⟩
def HTakeIs (L : Nat) (bs : List UInt8) (w : World) (e : Ending) (w' : World) : Prop :=
  ((∃ (rs : List ChR) (ao : Option Addr) (co : Nat), CsOk bs ∧ rs.map ChR.d = csD bs (num bs 4 4) ∧ e = .returned (.slice ao rs.length co) ∧ ChsIs L w.heap.size ao co rs w') ∨ (¬ CsOk bs ∧ e = .panicked thrown)) ∧ Below w.heap.size w w'
def CRel (L n M B : Nat) (bs : List UInt8) (g5 : Nat) (V : World) (out i : Value) (wr : World) : Prop :=
  ∃ (k : Nat) (rs : List ChR) (ao : Option Addr) (co : Nat) (aR : Option Addr) (cR : Nat), k ≤ M ∧ i = .int .i64 (k : Nat) ∧ rs.length = k ∧ out = .slice ao k co ∧ (∀ q, q < k → fitC bs (posC bs q)) ∧ rs.map ChR.d = csD bs k ∧ (∀ r ∈ rs, r.Is L wr) ∧ wr.ownsRow B 80 3 (.slice ao k co) k (chRV rs) ∧
    wr.heap[g5]? = some (.cells #[.slice aR (n - posC bs k) cR] 89 (0, 0)) ∧ BHas L aR (bs.drop (posC bs k)) wr ∧ n - posC bs k ≤ cR ∧ cR ≤ maxLen ∧ Below B V wr
set_option maxRecDepth 100000 in
set_option maxHeartbeats 6400000 in
theorem htake_any (L : Nat) (a : Option Addr) (n c : Nat) (bs : List UInt8) (w : World) (h : 0 < bs.length → BHas L a bs w) (hl : bs.length = n) (hn : n ≤ c) (hc : c ≤ maxLen) (hsz : n ≤ 100000000) (hLw : L ≤ w.heap.size) :
    Calls Try.prog 30 #[.agg #[.slice a n c]] w (HTakeIs L bs w) := by
  have hAC := allocC
  have hAF := allocF
  unfold HTakeIs
  by_cases h2 : 2 ≤ n
  case neg =>
    have HNO := Lib.hid (show ¬ CsOk bs from fun h => h2 (by have := h.len; omega))
    have HU := Lib.hid (fun W => u16_bad a n c 0 W (by omega) hn hc)
    clear h hl h2
    go_enter Try.func30, Try.ntmps30
    go_wp2_with (first | (go_at_call 61; (with_reducible refine (HU.out _).mono ?_); rintro e w1 ⟨rfl, hb1⟩; have h1c := bc hb1; have h1f := bf hb1; have h1z := hb1.size; try simp only [World.size_alloc, World.size_drew] at h1z))
    exact ⟨rfl, .inr ⟨HNO.out, rfl⟩, blw⟩
  have h := h (by omega)
  have HU0 := Lib.hid (fun W (hW : Below w.heap.size w W) => u16_z a n c 0 0 rfl bs W (h.has.below hW) hl (by omega) hn hc)
  by_cases hver : num bs 0 2 = 2 ∨ num bs 0 2 = 3
  case neg =>
    have HNO := Lib.hid (show ¬ CsOk bs from fun h => hver h.ver)
    generalize num bs 0 2 = y at *
    have d2 : ((y : Int) == 2) = false := by simp; omega
    have d3 : ((y : Int) == 3) = false := by simp; omega
    clear h hl h2 hver
    go_enter Try.func30, Try.ntmps30
    go_wp2_with (first | (go_at_call 61; (with_reducible refine (HU0.out _ (by exact blw)).mono ?_); rintro e w1 ⟨rfl, hb1⟩; have h1c := bc hb1; have h1f := bf hb1; have h1z := hb1.size; try simp only [World.size_alloc, World.size_drew] at h1z) | (go_at_call 62; refine (need_f _ (by first | rfl | assumption) _).mono ?_; rintro e w_ ⟨rfl, rfl⟩))
    exact ⟨rfl, .inr ⟨HNO.out, rfl⟩, blw⟩
  by_cases h8 : 8 ≤ n
  case neg =>
    have HNO := Lib.hid (show ¬ CsOk bs from fun h => h8 (by have := h.len; omega))
    have HR := Lib.hid (fun W => rest_bad a n c 8 W (by omega))
    generalize num bs 0 2 = y at *
    clear h hl h2 h8
    rcases hver with hv | hv
    · have d2 : ((y : Int) == 2) = true := by simp; omega
      clear hv
      go_enter Try.func30, Try.ntmps30
      go_wp2_with (first | (go_at_call 61; (with_reducible refine (HU0.out _ (by exact blw)).mono ?_); rintro e w1 ⟨rfl, hb1⟩; have h1c := bc hb1; have h1f := bf hb1; have h1z := hb1.size; try simp only [World.size_alloc, World.size_drew] at h1z) | (go_at_call 62; refine (need_t _ (by first | rfl | assumption) _).mono ?_; rintro e w_ ⟨rfl, rfl⟩) | (go_at_call 63; (with_reducible refine (HR.out _).mono ?_); rintro e w2 ⟨rfl, hb2⟩; have h2c := bc hb2; have h2f := bf hb2; have h2z := hb2.size; try simp only [World.size_alloc, World.size_drew] at h2z))
      exact ⟨rfl, .inr ⟨HNO.out, rfl⟩, blw⟩
    · have d2 : ((y : Int) == 2) = false := by simp; omega
      have d3 : ((y : Int) == 3) = true := by simp; omega
      clear hv
      go_enter Try.func30, Try.ntmps30
      go_wp2_with (first | (go_at_call 61; (with_reducible refine (HU0.out _ (by exact blw)).mono ?_); rintro e w1 ⟨rfl, hb1⟩; have h1c := bc hb1; have h1f := bf hb1; have h1z := hb1.size; try simp only [World.size_alloc, World.size_drew] at h1z) | (go_at_call 62; refine (need_t _ (by first | rfl | assumption) _).mono ?_; rintro e w_ ⟨rfl, rfl⟩) | (go_at_call 63; (with_reducible refine (HR.out _).mono ?_); rintro e w2 ⟨rfl, hb2⟩; have h2c := bc hb2; have h2f := bf hb2; have h2z := hb2.size; try simp only [World.size_alloc, World.size_drew] at h2z))
      exact ⟨rfl, .inr ⟨HNO.out, rfl⟩, blw⟩
  have HR := Lib.hid (fun W => rest_zh a n c 8 8 rfl W h8 hn hc)
  have HU4 := Lib.hid (fun W (hW : Below w.heap.size w W) => u32_z a n c 4 4 rfl bs W (h.has.below hW) hl (by omega) hn hc)
  have HBR := Lib.hid (show BHas L (adv a c 8) (bs.drop 8) w from h.adv c 8 (by omega))
  have HL := Lib.hid hl
  have HCS := Lib.hid (show (∀ k, k < num bs 4 4 → fitC bs (posC bs k)) → CsOk bs from fun hf => ⟨by omega, hver, hf⟩)
  have HNOC := Lib.hid (show ∀ k, k < num bs 4 4 → ¬ fitC bs (posC bs k) → ¬ CsOk bs from fun k hk hnf ho => hnf (ho.each k hk))
  have HSD := Lib.hid (csD_succ bs)
  have HSZ := Lib.hid (show csD bs 0 = [] from rfl)
  have hM4 := num4_lt bs 4
  have hP0 : posC bs 0 = 8 := rfl
  have HP0 := Lib.hid hP0
  have hc8 : c - 8 ≤ maxLen := Nat.le_trans (Nat.sub_le _ _) hc
  have hn8 : n - 8 ≤ c - 8 := by omega
  clear h hl hP0
  generalize hMe : num bs 4 4 = M at *
  generalize num bs 0 2 = y at *
  generalize adv a c 8 = AQ at *
  generalize hcq : c - 8 = CQ at *
  generalize hnq : n - 8 = NQ at *
  rcases hver with hv | hv
  · have d2 : ((y : Int) == 2) = true := by simp; omega
    clear hv
    go_enter Try.func30, Try.ntmps30
    go_wp2_with (first | (go_at_call 61; (with_reducible refine (HU0.out _ (by exact blw)).mono ?_); rintro e w1 ⟨rfl, hb1⟩; have h1c := bc hb1; have h1f := bf hb1; have h1z := hb1.size; try simp only [World.size_alloc, World.size_drew] at h1z) | (go_at_call 62; refine (need_t _ (by first | rfl | assumption) _).mono ?_; rintro e w_ ⟨rfl, rfl⟩) | (go_at_call 63; (with_reducible refine (HR.out _).mono ?_); rintro e w2 ⟨rfl, hb2⟩; have h2c := bc hb2; have h2f := bf hb2; have h2z := hb2.size; try simp only [World.size_alloc, World.size_drew] at h2z) | (go_at_call 64; (with_reducible refine (HU4.out _ (by exact blw)).mono ?_); rintro e w3 ⟨rfl, hb3⟩; have h3c := bc hb3; have h3f := bf hb3; have h3z := hb3.size; try simp only [World.size_alloc, World.size_drew] at h3z))
    have z5 : w3.heap[w2.heap.size]? = some (.cells #[.slice AQ NQ CQ] 89 (0, 0)) := new_at hb3
    have hbV : Below w.heap.size w w3 := blw
    have HB := Lib.hid hbV
    have Z5 := Lib.hid z5
    have HQ := Lib.hid (HBR.out.below hbV)
    have hg5 : w.heap.size ≤ w2.heap.size := by omega
    have hg5V : w2.heap.size < w3.heap.size := (Array.getElem?_eq_some_iff.1 z5).1
    clear hb1 hb2 hb3 h1c h1f h1z h2c h2f h2z h3c h3f h3z hbV z5 HU0 HU4 HR
    generalize w2.heap.size = g5 at *
    go_loopw [4, 20] (CRel L n M w.heap.size bs g5 w3) (fun _ i _ => M - (Go.RowKit.intOf i).toNat)
    case atStart => exact ⟨0, [], none, 0, AQ, CQ, Nat.zero_le _, rfl, rfl, rfl, fun q hq => by omega, by rw [HSZ.out]; rfl, fun r hr => by simp at hr, World.ownsRow_nil _ _ _ _, by rw [HP0.out, hnq]; exact Z5.out, HQ.out, by rw [HP0.out, hnq]; exact hn8, hc8, (Below.refl _ _).mono HB.out.size⟩
    case round =>
      obtain ⟨k, rs, ao, co, aR, cR, hk, rfl, hsl, rfl, hfit, hds, heach, ho, h5, hq, hcap, hmax, hb⟩ := hrel
      rename World => wr
      have HO := Lib.hid ho
      have HFIT := Lib.hid hfit
      have HDS := Lib.hid hds
      have HER := Lib.hid heach
      have H5R := Lib.hid h5
      have HDR := Lib.hid hq
      have HBW := Lib.hid (HB.out.trans hb)
      have hzr : w3.heap.size ≤ wr.heap.size := hb.size
      have hpn := posC_le (bs := bs) (by rw [HL.out]; exact h8) k hfit
      have hpg := posC_ge (bs := bs) k hfit
      have HPS := Lib.hid (show posC bs (k + 1) = posC bs k + num bs (posC bs k + 4) 4 from rfl)
      have HSDK := Lib.hid (HSD.out k)
      have HFK := Lib.hid (fun (h : fitC bs (posC bs k)) q (hq : q < k + 1) => show fitC bs (posC bs q) from by
        rcases Nat.lt_or_ge q k with g | g
        · exact HFIT.out q g
        · rw [show q = k by omega]; exact h)
      rw [HL.out] at hpn
      have lg5 := (Array.getElem?_eq_some_iff.1 h5).1
      have q5 := cell_of_heap h5 0
      simp only [List.getElem?_toArray, List.getElem?_cons_zero] at q5
      clear hfit hds heach h5 ho hq
      by_cases hlt : k < M
      · have dk : decide ((k : Int) < (M : Int)) = true := by simpa using hlt
        have hnk := HNOC.out k hlt
        generalize hp : posC bs k = p at *
        have HLD := Lib.hid (show (bs.drop p).length = n - p from by rw [List.length_drop, HL.out])
        have hfd : fitC bs p ↔ p + 16 ≤ n ∧ 16 ≤ num bs (p + 4) 4 ∧ p + num bs (p + 4) 4 ≤ n ∧ ChOk (ownC bs p) := by unfold fitC; rw [HL.out]
        have HFD := Lib.hid hfd
        have hBwr : w.heap.size ≤ wr.heap.size := HBW.out.size
        clear hfd
        by_cases c4 : p + 8 ≤ n
        case neg =>
          have HNO := Lib.hid (hnk fun hf => c4 (by have := (HFD.out.1 hf).1; omega))
          have HSP := Lib.hid (fun W (_ : Below wr.heap.size wr W) => split_short aR (n - p) cR 4 4 rfl W (by omega) hcap hmax)
          clear hnk
          go_wp2_with (go_at_call 65; (with_reducible refine (HSP.out _ (by exact balloc (brefl _) _)).mono ?_); rintro e ws ⟨rfl, hbs⟩; have HBS := Lib.hid ((balloc (brefl wr) (.cells #[.slice none 0 0] 89)).trans (hbs.mono (by simp))); clear hbs)
          exact ⟨rfl, .inr ⟨HNO.out, rfl⟩, HBW.out.trans (HBS.out.mono HBW.out.size)⟩
        have hs0 : num (bs.drop p) 4 4 = num bs (p + 4) 4 := num_dp _ _ _ _
        have hsok := fun W (hW : Below wr.heap.size wr W) => split_ok aR (n - p) cR 4 4 rfl (bs.drop p) W (HDR.out.has.below hW) HLD.out (by omega)
        have hslo := fun W (hW : Below wr.heap.size wr W) => split_long aR (n - p) cR 4 4 rfl (bs.drop p) W (HDR.out.has.below hW) HLD.out (by omega)
        rw [hs0] at hsok hslo
        have hadv := HDR.out.adv cR (num bs (p + 4) 4) (by rw [HLD.out]; exact hcap)
        have HOWN := Lib.hid (show ownC bs p = (bs.drop p).take (num bs (p + 4) 4) from rfl)
        clear hs0
        generalize num bs (p + 4) 4 = s at *
        by_cases cs : p + s ≤ n
        case neg =>
          have HNO := Lib.hid (hnk fun hf => cs (HFD.out.1 hf).2.2.1)
          have HSP := Lib.hid (fun W (hW : Below wr.heap.size wr W) => hslo W hW (by omega) hcap hmax)
          clear hnk hsok hslo hadv
          go_wp2_with (go_at_call 65; (with_reducible refine (HSP.out _ (by exact balloc (brefl _) _)).mono ?_); rintro e ws ⟨rfl, hbs⟩; have HBS := Lib.hid ((balloc (brefl wr) (.cells #[.slice none 0 0] 89)).trans (hbs.mono (by simp))); clear hbs)
          exact ⟨rfl, .inr ⟨HNO.out, rfl⟩, HBW.out.trans (HBS.out.mono HBW.out.size)⟩
        have HSP := Lib.hid (fun W (hW : Below wr.heap.size wr W) => hsok W hW (by omega) hcap hmax)
        have HAV := Lib.hid hadv
        clear hsok hslo hadv
        have HDD := Lib.hid (show (bs.drop p).drop s = bs.drop (p + s) from by rw [List.drop_drop])
        obtain ⟨AR2, hAR2⟩ : ∃ x, x = adv aR cR s := ⟨_, rfl⟩
        obtain ⟨NR2, hNR2⟩ : ∃ x, x = n - p - s := ⟨_, rfl⟩
        obtain ⟨CR2, hCR2⟩ : ∃ x, x = cR - s := ⟨_, rfl⟩
        rw [← hAR2, ← hNR2, ← hCR2] at HSP
        have HA2 := Lib.hid hAR2
        have HN2 := Lib.hid hNR2
        have HC2 := Lib.hid hCR2
        have hscR : s ≤ cR := by omega
        have h5g : g5 ≠ wr.heap.size := by omega
        have hLr : L ≤ wr.heap.size := by omega
        have hLg : L ≤ g5 := by omega
        have hkn : 16 * k ≤ n := by omega
        have hCO := fun (W : World) (hW : BHas L aR ((bs.drop p).take s) W) (hz : L ≤ W.heap.size) => chainOf_any L aR s cR ((bs.drop p).take s) W hW (by rw [List.length_take, HLD.out]; omega) hscR hmax (by omega) hz
        rw [← HOWN.out] at hCO
        have HCO := Lib.hid hCO
        clear hAR2 hNR2 hCR2 hCO
        go_wp2_with (first
          | (go_at_call 65; (with_reducible refine (HSP.out _ (by exact balloc (brefl _) _)).mono ?_); rintro e ws ⟨rfl, hbs⟩; have y8 := new_at hbs; have y5 := (hbs.block g5 (by simp only [World.size_alloc]; omega)).trans ((heap_push _ _ _).trans ((if_neg (by omega)).trans H5R.out)); have q8 := cell_of_heap y8 0; have f8 := froz_of_heap y8 0; have q5 := cell_of_heap y5 0; have f5 := froz_of_heap y5 0; have hbs2 := (balloc (brefl wr) (.cells #[.slice none 0 0] 89)).trans (hbs.mono (by simp)); have hzs := hbs2.size; have l8s := (Array.getElem?_eq_some_iff.1 y8).1; have l5s := (Array.getElem?_eq_some_iff.1 y5).1; simp only [List.getElem?_toArray, List.getElem?_cons_zero] at q8 q5; have Y8 := Lib.hid y8; have Y5 := Lib.hid y5; have HBS := Lib.hid hbs2; clear y8 y5 hbs hbs2))
        obtain ⟨X, hX⟩ : ∃ X, X = (ws.setCell ⟨wr.heap.size, 0, none⟩ (.slice aR s cR)).setCell ⟨g5, 0, none⟩ (.slice AR2 NR2 CR2) := ⟨_, rfl⟩
        have z8 := set_heap_at (o := 0) (.slice aR s cR) Y8.out
        have z5 := (set_heap_other (o := 0) (.slice aR s cR) h5g).trans Y5.out
        have x8 := (set_heap_other (o := 0) (.slice AR2 NR2 CR2) (fun e => h5g e.symm)).trans z8
        have x5 := set_heap_at (o := 0) (.slice AR2 NR2 CR2) z5
        simp only [List.setIfInBounds_toArray, List.set_cons_succ, List.set_cons_zero] at x8 x5
        rw [← hX] at x5 x8
        have HOX := Lib.hid (show X.ownsRow w.heap.size 80 3 (.slice ao k co) k (chRV rs) from by rw [hX]; exact set_owns _ (set_owns _ (owns_below HO.out HBS.out (Nat.le_refl _)) (own_neE (owns_below HO.out HBS.out (Nat.le_refl _)) Y8.out (by decide))) (own_neE (set_owns _ (owns_below HO.out HBS.out (Nat.le_refl _)) (own_neE (owns_below HO.out HBS.out (Nat.le_refl _)) Y8.out (by decide))) z5 (by decide)))
        have HEX := Lib.hid (show ∀ r ∈ rs, r.Is L X from by rw [hX]; exact fun s hs => (((HER.out s hs).below HBS.out).set Y8.out (by decide) (by decide) (by decide) hLr 0 _).set z5 (by decide) (by decide) (by decide) hLg 0 _)
        have HDX := Lib.hid (show BHas L aR (bs.drop p) X from by rw [hX]; exact (((HDR.out).below HBS.out).set Y8.out (by decide) hLr 0 _).set z5 (by decide) hLg 0 _)
        have HBX := Lib.hid (show Below w.heap.size w X from by rw [hX]; exact ((HBW.out.trans (HBS.out.mono hBwr)).setCell (p := ⟨wr.heap.size, 0, none⟩) hBwr _).setCell (p := ⟨g5, 0, none⟩) hg5 _)
        have HBX3 := Lib.hid (show Below w.heap.size w3 X from by rw [hX]; exact ((hb.trans (HBS.out.mono hBwr)).setCell (p := ⟨wr.heap.size, 0, none⟩) hBwr _).setCell (p := ⟨g5, 0, none⟩) hg5 _)
        have HX5 := Lib.hid x5
        have hLX : L ≤ X.heap.size := Nat.le_trans hLw HBX.out.size
        have q8 := cell_of_heap x8 0
        simp only [List.getElem?_toArray, List.getElem?_cons_zero] at q8
        have l8X := (Array.getElem?_eq_some_iff.1 x8).1
        have l5X := (Array.getElem?_eq_some_iff.1 x5).1
        have hBX : w.heap.size ≤ X.heap.size := HBX.out.size
        rw [← hX]
        clear hX z8 z5 f8 q5 f5 l8s l5s hzs x8 x5 hb
        refine (HCO.out X (by rw [HOWN.out]; exact HDX.out.take s) hLX).mono ?_
        rintro e w7 ⟨(⟨r, hok, hrd, rfl, hr⟩ | ⟨hno, rfl⟩), hb7⟩
        case inr =>
          have HNO := Lib.hid (hnk fun hf => hno (HFD.out.1 hf).2.2.2)
          exact ⟨rfl, .inr ⟨HNO.out, rfl⟩, HBX.out.trans (hb7.mono HBX.out.size)⟩
        have hlen16 := hok.len
        have hol : (ownC bs p).length = s := by rw [HOWN.out, List.length_take, HLD.out]; omega
        rw [hol] at hlen16
        have HFS := Lib.hid (HFK.out (HFD.out.2 ⟨by omega, hlen16, cs, hok⟩))
        have HRD := Lib.hid hrd
        have HRI := Lib.hid hr
        have HO7 := Lib.hid (owns_below HOX.out hb7 (Nat.le_refl _))
        have HE7 := Lib.hid (show ∀ r ∈ rs, r.Is L w7 from fun r hr => (HEX.out r hr).below hb7)
        have HD7 := Lib.hid (HDX.out.below hb7)
        have H57 := Lib.hid ((hb7.block g5 l5X).trans HX5.out)
        have HB73 := Lib.hid (HBX3.out.trans (hb7.mono hBX))
        have hB7 : w.heap.size ≤ w7.heap.size := Nat.le_trans hBX hb7.size
        obtain ⟨rf, rar, rcr, rsa, rsc, rru, rsu⟩ := r
        have hre : (ChR.enc ⟨rf, rar, rcr, rsa, rsc, rru, rsu⟩) = [.int .u32 (rf : Nat), .slice rar rru.length rcr, .slice rsa rsu.length rsc] := rfl
        have HRE := Lib.hid hre
        rw [hre]
        clear hb7 q8 l8X l5X hok hrd hr hnk hol hre HEX HDX HOX HX5 HBX
        have bA : Below w7.heap.size w7 (w7.alloc (Obj.cells #[.int .u32 (rf : Nat), .slice rar rru.length rcr, .slice rsa rsu.length rsc] 80)) := balloc (brefl w7) _
        have HBA := Lib.hid bA
        clear bA
        go_wp2_with (at_builtin; refine wpApp rfl _ _ 61 rfl w.heap.size 80 (.agg #[.int .u32 0, .slice none 0 0, .slice none 0 0]) 3 56 Try.underlying61 info_chain rfl (by decide) _ k (chRV rs) rfl (owns_below HO7.out HBA.out (Nat.le_refl _)) (some ⟨w7.heap.size, 0, none⟩) 1 1 [.int .u32 (rf : Nat), .slice rar rru.length rcr, .slice rsa rsu.length rsc] rfl rfl (has_alloc w7 #[.int .u32 (rf : Nat), .slice rar rru.length rcr, .slice rsa rsu.length rsc] 80) (fun h => by cases h) (fun u hu => by simp at hu; rcases hu with rfl | rfl | rfl <;> rfl) (by unfold maxLen; omega) (by omega) (by simp; omega) ?_; intro a9 c9 w9 hown9 k91 k92 k93 hb9 hg9; have hko : KeptO (fun k_ t_ => t_ = 80) w7 w9 := (KeptO.below HBA.out).trans (KeptO.grown (owns_below HO7.out HBA.out (Nat.le_refl _)) hg9 fun m hm => rfl); have HO9 := Lib.hid hown9; have HKO := Lib.hid hko; have HB9 := Lib.hid ((HBA.out.mono hB7).trans hb9); clear hown9 hb9 hg9 hko)
        go_roundw
        case rel =>
          have hno8 : ∀ k : Nat, ¬ (fun (k_ t_ : Nat) => t_ = 80) k 5 := fun k (h_ : 5 = 80) => absurd h_ (by decide)
          have hno9 : ∀ k : Nat, ¬ (fun (k_ t_ : Nat) => t_ = 80) k 85 := fun k (h_ : 85 = 80) => absurd h_ (by decide)
          have hno7 : ∀ k : Nat, ¬ (fun (k_ t_ : Nat) => t_ = 80) k 91 := fun k (h_ : 91 = 80) => absurd h_ (by decide)
          have hbL : Below L w7 w9 := HB9.out.mono hLw
          have hD2 := (HD7.out.adv cR s (by rw [HLD.out]; exact hcap)).keptO hbL HKO.out hno8
          rw [HDD.out, ← HA2.out] at hD2
          refine ⟨k + 1, rs ++ [⟨rf, rar, rcr, rsa, rsc, rru, rsu⟩], a9, c9, AR2, CR2, hlt, by go_num, by rw [List.length_append, hsl]; rfl, rfl, HFS.out, ?_, ?_, ?_, ?_, ?_, ?_, ?_, ?_⟩
          · rw [List.map_append, HDS.out, HSDK.out, ← HRD.out]
            rfl
          · intro x hx
            rcases List.mem_append.1 hx with hx | hx
            · exact (HE7.out x hx).keptO hbL HKO.out hno8 hno9 hno7
            · simp only [List.mem_singleton] at hx
              subst hx
              exact HRI.out.keptO hbL HKO.out hno8 hno9 hno7
          · rw [chRV_snoc, HRE.out]
            exact HO9.out
          · rw [HPS.out, show n - (p + s) = NR2 from by rw [HN2.out]; omega]
            exact (HKO.out.2 g5 _ _ _ H57.out (fun (h_ : 89 = 80) => absurd h_ (by decide))).trans H57.out
          · rw [HPS.out]
            exact hD2
          · rw [HPS.out, HC2.out]
            omega
          · rw [HC2.out]
            exact Nat.le_trans (Nat.sub_le _ _) hmax
          · exact HB73.out.trans HB9.out
        case measure => simp [Go.RowKit.intOf]; omega
      · obtain rfl : M = k := by omega
        have dk : decide ((M : Int) < (M : Int)) = false := by simp
        have HOK := Lib.hid (HCS.out HFIT.out)
        clear hlt hk
        go_wp2_with fail
        go_ret
        exact ⟨.inl ⟨rs, ao, co, HOK.out, HDS.out, by rw [hsl]; rfl, by rw [hsl]; exact HO.out, HER.out⟩, HBW.out⟩
  · have d2 : ((y : Int) == 2) = false := by simp; omega
    have d3 : ((y : Int) == 3) = true := by simp; omega
    clear hv
    go_enter Try.func30, Try.ntmps30
    go_wp2_with (first | (go_at_call 61; (with_reducible refine (HU0.out _ (by exact blw)).mono ?_); rintro e w1 ⟨rfl, hb1⟩; have h1c := bc hb1; have h1f := bf hb1; have h1z := hb1.size; try simp only [World.size_alloc, World.size_drew] at h1z) | (go_at_call 62; refine (need_t _ (by first | rfl | assumption) _).mono ?_; rintro e w_ ⟨rfl, rfl⟩) | (go_at_call 63; (with_reducible refine (HR.out _).mono ?_); rintro e w2 ⟨rfl, hb2⟩; have h2c := bc hb2; have h2f := bf hb2; have h2z := hb2.size; try simp only [World.size_alloc, World.size_drew] at h2z) | (go_at_call 64; (with_reducible refine (HU4.out _ (by exact blw)).mono ?_); rintro e w3 ⟨rfl, hb3⟩; have h3c := bc hb3; have h3f := bf hb3; have h3z := hb3.size; try simp only [World.size_alloc, World.size_drew] at h3z))
    have z5 : w3.heap[w2.heap.size]? = some (.cells #[.slice AQ NQ CQ] 89 (0, 0)) := new_at hb3
    have hbV : Below w.heap.size w w3 := blw
    have HB := Lib.hid hbV
    have Z5 := Lib.hid z5
    have HQ := Lib.hid (HBR.out.below hbV)
    have hg5 : w.heap.size ≤ w2.heap.size := by omega
    have hg5V : w2.heap.size < w3.heap.size := (Array.getElem?_eq_some_iff.1 z5).1
    clear hb1 hb2 hb3 h1c h1f h1z h2c h2f h2z h3c h3f h3z hbV z5 HU0 HU4 HR
    generalize w2.heap.size = g5 at *
    go_loopw [4, 20] (CRel L n M w.heap.size bs g5 w3) (fun _ i _ => M - (Go.RowKit.intOf i).toNat)
    case atStart => exact ⟨0, [], none, 0, AQ, CQ, Nat.zero_le _, rfl, rfl, rfl, fun q hq => by omega, by rw [HSZ.out]; rfl, fun r hr => by simp at hr, World.ownsRow_nil _ _ _ _, by rw [HP0.out, hnq]; exact Z5.out, HQ.out, by rw [HP0.out, hnq]; exact hn8, hc8, (Below.refl _ _).mono HB.out.size⟩
    case round =>
      obtain ⟨k, rs, ao, co, aR, cR, hk, rfl, hsl, rfl, hfit, hds, heach, ho, h5, hq, hcap, hmax, hb⟩ := hrel
      rename World => wr
      have HO := Lib.hid ho
      have HFIT := Lib.hid hfit
      have HDS := Lib.hid hds
      have HER := Lib.hid heach
      have H5R := Lib.hid h5
      have HDR := Lib.hid hq
      have HBW := Lib.hid (HB.out.trans hb)
      have hzr : w3.heap.size ≤ wr.heap.size := hb.size
      have hpn := posC_le (bs := bs) (by rw [HL.out]; exact h8) k hfit
      have hpg := posC_ge (bs := bs) k hfit
      have HPS := Lib.hid (show posC bs (k + 1) = posC bs k + num bs (posC bs k + 4) 4 from rfl)
      have HSDK := Lib.hid (HSD.out k)
      have HFK := Lib.hid (fun (h : fitC bs (posC bs k)) q (hq : q < k + 1) => show fitC bs (posC bs q) from by
        rcases Nat.lt_or_ge q k with g | g
        · exact HFIT.out q g
        · rw [show q = k by omega]; exact h)
      rw [HL.out] at hpn
      have lg5 := (Array.getElem?_eq_some_iff.1 h5).1
      have q5 := cell_of_heap h5 0
      simp only [List.getElem?_toArray, List.getElem?_cons_zero] at q5
      clear hfit hds heach h5 ho hq
      by_cases hlt : k < M
      · have dk : decide ((k : Int) < (M : Int)) = true := by simpa using hlt
        have hnk := HNOC.out k hlt
        generalize hp : posC bs k = p at *
        have HLD := Lib.hid (show (bs.drop p).length = n - p from by rw [List.length_drop, HL.out])
        have hfd : fitC bs p ↔ p + 16 ≤ n ∧ 16 ≤ num bs (p + 4) 4 ∧ p + num bs (p + 4) 4 ≤ n ∧ ChOk (ownC bs p) := by unfold fitC; rw [HL.out]
        have HFD := Lib.hid hfd
        have hBwr : w.heap.size ≤ wr.heap.size := HBW.out.size
        clear hfd
        by_cases c4 : p + 8 ≤ n
        case neg =>
          have HNO := Lib.hid (hnk fun hf => c4 (by have := (HFD.out.1 hf).1; omega))
          have HSP := Lib.hid (fun W (_ : Below wr.heap.size wr W) => split_short aR (n - p) cR 4 4 rfl W (by omega) hcap hmax)
          clear hnk
          go_wp2_with (go_at_call 65; (with_reducible refine (HSP.out _ (by exact balloc (brefl _) _)).mono ?_); rintro e ws ⟨rfl, hbs⟩; have HBS := Lib.hid ((balloc (brefl wr) (.cells #[.slice none 0 0] 89)).trans (hbs.mono (by simp))); clear hbs)
          exact ⟨rfl, .inr ⟨HNO.out, rfl⟩, HBW.out.trans (HBS.out.mono HBW.out.size)⟩
        have hs0 : num (bs.drop p) 4 4 = num bs (p + 4) 4 := num_dp _ _ _ _
        have hsok := fun W (hW : Below wr.heap.size wr W) => split_ok aR (n - p) cR 4 4 rfl (bs.drop p) W (HDR.out.has.below hW) HLD.out (by omega)
        have hslo := fun W (hW : Below wr.heap.size wr W) => split_long aR (n - p) cR 4 4 rfl (bs.drop p) W (HDR.out.has.below hW) HLD.out (by omega)
        rw [hs0] at hsok hslo
        have hadv := HDR.out.adv cR (num bs (p + 4) 4) (by rw [HLD.out]; exact hcap)
        have HOWN := Lib.hid (show ownC bs p = (bs.drop p).take (num bs (p + 4) 4) from rfl)
        clear hs0
        generalize num bs (p + 4) 4 = s at *
        by_cases cs : p + s ≤ n
        case neg =>
          have HNO := Lib.hid (hnk fun hf => cs (HFD.out.1 hf).2.2.1)
          have HSP := Lib.hid (fun W (hW : Below wr.heap.size wr W) => hslo W hW (by omega) hcap hmax)
          clear hnk hsok hslo hadv
          go_wp2_with (go_at_call 65; (with_reducible refine (HSP.out _ (by exact balloc (brefl _) _)).mono ?_); rintro e ws ⟨rfl, hbs⟩; have HBS := Lib.hid ((balloc (brefl wr) (.cells #[.slice none 0 0] 89)).trans (hbs.mono (by simp))); clear hbs)
          exact ⟨rfl, .inr ⟨HNO.out, rfl⟩, HBW.out.trans (HBS.out.mono HBW.out.size)⟩
        have HSP := Lib.hid (fun W (hW : Below wr.heap.size wr W) => hsok W hW (by omega) hcap hmax)
        have HAV := Lib.hid hadv
        clear hsok hslo hadv
        have HDD := Lib.hid (show (bs.drop p).drop s = bs.drop (p + s) from by rw [List.drop_drop])
        obtain ⟨AR2, hAR2⟩ : ∃ x, x = adv aR cR s := ⟨_, rfl⟩
        obtain ⟨NR2, hNR2⟩ : ∃ x, x = n - p - s := ⟨_, rfl⟩
        obtain ⟨CR2, hCR2⟩ : ∃ x, x = cR - s := ⟨_, rfl⟩
        rw [← hAR2, ← hNR2, ← hCR2] at HSP
        have HA2 := Lib.hid hAR2
        have HN2 := Lib.hid hNR2
        have HC2 := Lib.hid hCR2
        have hscR : s ≤ cR := by omega
        have h5g : g5 ≠ wr.heap.size := by omega
        have hLr : L ≤ wr.heap.size := by omega
        have hLg : L ≤ g5 := by omega
        have hkn : 16 * k ≤ n := by omega
        have hCO := fun (W : World) (hW : BHas L aR ((bs.drop p).take s) W) (hz : L ≤ W.heap.size) => chainOf_any L aR s cR ((bs.drop p).take s) W hW (by rw [List.length_take, HLD.out]; omega) hscR hmax (by omega) hz
        rw [← HOWN.out] at hCO
        have HCO := Lib.hid hCO
        clear hAR2 hNR2 hCR2 hCO
        go_wp2_with (first
          | (go_at_call 65; (with_reducible refine (HSP.out _ (by exact balloc (brefl _) _)).mono ?_); rintro e ws ⟨rfl, hbs⟩; have y8 := new_at hbs; have y5 := (hbs.block g5 (by simp only [World.size_alloc]; omega)).trans ((heap_push _ _ _).trans ((if_neg (by omega)).trans H5R.out)); have q8 := cell_of_heap y8 0; have f8 := froz_of_heap y8 0; have q5 := cell_of_heap y5 0; have f5 := froz_of_heap y5 0; have hbs2 := (balloc (brefl wr) (.cells #[.slice none 0 0] 89)).trans (hbs.mono (by simp)); have hzs := hbs2.size; have l8s := (Array.getElem?_eq_some_iff.1 y8).1; have l5s := (Array.getElem?_eq_some_iff.1 y5).1; simp only [List.getElem?_toArray, List.getElem?_cons_zero] at q8 q5; have Y8 := Lib.hid y8; have Y5 := Lib.hid y5; have HBS := Lib.hid hbs2; clear y8 y5 hbs hbs2))
        obtain ⟨X, hX⟩ : ∃ X, X = (ws.setCell ⟨wr.heap.size, 0, none⟩ (.slice aR s cR)).setCell ⟨g5, 0, none⟩ (.slice AR2 NR2 CR2) := ⟨_, rfl⟩
        have z8 := set_heap_at (o := 0) (.slice aR s cR) Y8.out
        have z5 := (set_heap_other (o := 0) (.slice aR s cR) h5g).trans Y5.out
        have x8 := (set_heap_other (o := 0) (.slice AR2 NR2 CR2) (fun e => h5g e.symm)).trans z8
        have x5 := set_heap_at (o := 0) (.slice AR2 NR2 CR2) z5
        simp only [List.setIfInBounds_toArray, List.set_cons_succ, List.set_cons_zero] at x8 x5
        rw [← hX] at x5 x8
        have HOX := Lib.hid (show X.ownsRow w.heap.size 80 3 (.slice ao k co) k (chRV rs) from by rw [hX]; exact set_owns _ (set_owns _ (owns_below HO.out HBS.out (Nat.le_refl _)) (own_neE (owns_below HO.out HBS.out (Nat.le_refl _)) Y8.out (by decide))) (own_neE (set_owns _ (owns_below HO.out HBS.out (Nat.le_refl _)) (own_neE (owns_below HO.out HBS.out (Nat.le_refl _)) Y8.out (by decide))) z5 (by decide)))
        have HEX := Lib.hid (show ∀ r ∈ rs, r.Is L X from by rw [hX]; exact fun s hs => (((HER.out s hs).below HBS.out).set Y8.out (by decide) (by decide) (by decide) hLr 0 _).set z5 (by decide) (by decide) (by decide) hLg 0 _)
        have HDX := Lib.hid (show BHas L aR (bs.drop p) X from by rw [hX]; exact (((HDR.out).below HBS.out).set Y8.out (by decide) hLr 0 _).set z5 (by decide) hLg 0 _)
        have HBX := Lib.hid (show Below w.heap.size w X from by rw [hX]; exact ((HBW.out.trans (HBS.out.mono hBwr)).setCell (p := ⟨wr.heap.size, 0, none⟩) hBwr _).setCell (p := ⟨g5, 0, none⟩) hg5 _)
        have HBX3 := Lib.hid (show Below w.heap.size w3 X from by rw [hX]; exact ((hb.trans (HBS.out.mono hBwr)).setCell (p := ⟨wr.heap.size, 0, none⟩) hBwr _).setCell (p := ⟨g5, 0, none⟩) hg5 _)
        have HX5 := Lib.hid x5
        have hLX : L ≤ X.heap.size := Nat.le_trans hLw HBX.out.size
        have q8 := cell_of_heap x8 0
        simp only [List.getElem?_toArray, List.getElem?_cons_zero] at q8
        have l8X := (Array.getElem?_eq_some_iff.1 x8).1
        have l5X := (Array.getElem?_eq_some_iff.1 x5).1
        have hBX : w.heap.size ≤ X.heap.size := HBX.out.size
        rw [← hX]
        clear hX z8 z5 f8 q5 f5 l8s l5s hzs x8 x5 hb
        refine (HCO.out X (by rw [HOWN.out]; exact HDX.out.take s) hLX).mono ?_
        rintro e w7 ⟨(⟨r, hok, hrd, rfl, hr⟩ | ⟨hno, rfl⟩), hb7⟩
        case inr =>
          have HNO := Lib.hid (hnk fun hf => hno (HFD.out.1 hf).2.2.2)
          exact ⟨rfl, .inr ⟨HNO.out, rfl⟩, HBX.out.trans (hb7.mono HBX.out.size)⟩
        have hlen16 := hok.len
        have hol : (ownC bs p).length = s := by rw [HOWN.out, List.length_take, HLD.out]; omega
        rw [hol] at hlen16
        have HFS := Lib.hid (HFK.out (HFD.out.2 ⟨by omega, hlen16, cs, hok⟩))
        have HRD := Lib.hid hrd
        have HRI := Lib.hid hr
        have HO7 := Lib.hid (owns_below HOX.out hb7 (Nat.le_refl _))
        have HE7 := Lib.hid (show ∀ r ∈ rs, r.Is L w7 from fun r hr => (HEX.out r hr).below hb7)
        have HD7 := Lib.hid (HDX.out.below hb7)
        have H57 := Lib.hid ((hb7.block g5 l5X).trans HX5.out)
        have HB73 := Lib.hid (HBX3.out.trans (hb7.mono hBX))
        have hB7 : w.heap.size ≤ w7.heap.size := Nat.le_trans hBX hb7.size
        obtain ⟨rf, rar, rcr, rsa, rsc, rru, rsu⟩ := r
        have hre : (ChR.enc ⟨rf, rar, rcr, rsa, rsc, rru, rsu⟩) = [.int .u32 (rf : Nat), .slice rar rru.length rcr, .slice rsa rsu.length rsc] := rfl
        have HRE := Lib.hid hre
        rw [hre]
        clear hb7 q8 l8X l5X hok hrd hr hnk hol hre HEX HDX HOX HX5 HBX
        have bA : Below w7.heap.size w7 (w7.alloc (Obj.cells #[.int .u32 (rf : Nat), .slice rar rru.length rcr, .slice rsa rsu.length rsc] 80)) := balloc (brefl w7) _
        have HBA := Lib.hid bA
        clear bA
        go_wp2_with (at_builtin; refine wpApp rfl _ _ 61 rfl w.heap.size 80 (.agg #[.int .u32 0, .slice none 0 0, .slice none 0 0]) 3 56 Try.underlying61 info_chain rfl (by decide) _ k (chRV rs) rfl (owns_below HO7.out HBA.out (Nat.le_refl _)) (some ⟨w7.heap.size, 0, none⟩) 1 1 [.int .u32 (rf : Nat), .slice rar rru.length rcr, .slice rsa rsu.length rsc] rfl rfl (has_alloc w7 #[.int .u32 (rf : Nat), .slice rar rru.length rcr, .slice rsa rsu.length rsc] 80) (fun h => by cases h) (fun u hu => by simp at hu; rcases hu with rfl | rfl | rfl <;> rfl) (by unfold maxLen; omega) (by omega) (by simp; omega) ?_; intro a9 c9 w9 hown9 k91 k92 k93 hb9 hg9; have hko : KeptO (fun k_ t_ => t_ = 80) w7 w9 := (KeptO.below HBA.out).trans (KeptO.grown (owns_below HO7.out HBA.out (Nat.le_refl _)) hg9 fun m hm => rfl); have HO9 := Lib.hid hown9; have HKO := Lib.hid hko; have HB9 := Lib.hid ((HBA.out.mono hB7).trans hb9); clear hown9 hb9 hg9 hko)
        go_roundw
        case rel =>
          have hno8 : ∀ k : Nat, ¬ (fun (k_ t_ : Nat) => t_ = 80) k 5 := fun k (h_ : 5 = 80) => absurd h_ (by decide)
          have hno9 : ∀ k : Nat, ¬ (fun (k_ t_ : Nat) => t_ = 80) k 85 := fun k (h_ : 85 = 80) => absurd h_ (by decide)
          have hno7 : ∀ k : Nat, ¬ (fun (k_ t_ : Nat) => t_ = 80) k 91 := fun k (h_ : 91 = 80) => absurd h_ (by decide)
          have hbL : Below L w7 w9 := HB9.out.mono hLw
          have hD2 := (HD7.out.adv cR s (by rw [HLD.out]; exact hcap)).keptO hbL HKO.out hno8
          rw [HDD.out, ← HA2.out] at hD2
          refine ⟨k + 1, rs ++ [⟨rf, rar, rcr, rsa, rsc, rru, rsu⟩], a9, c9, AR2, CR2, hlt, by go_num, by rw [List.length_append, hsl]; rfl, rfl, HFS.out, ?_, ?_, ?_, ?_, ?_, ?_, ?_, ?_⟩
          · rw [List.map_append, HDS.out, HSDK.out, ← HRD.out]
            rfl
          · intro x hx
            rcases List.mem_append.1 hx with hx | hx
            · exact (HE7.out x hx).keptO hbL HKO.out hno8 hno9 hno7
            · simp only [List.mem_singleton] at hx
              subst hx
              exact HRI.out.keptO hbL HKO.out hno8 hno9 hno7
          · rw [chRV_snoc, HRE.out]
            exact HO9.out
          · rw [HPS.out, show n - (p + s) = NR2 from by rw [HN2.out]; omega]
            exact (HKO.out.2 g5 _ _ _ H57.out (fun (h_ : 89 = 80) => absurd h_ (by decide))).trans H57.out
          · rw [HPS.out]
            exact hD2
          · rw [HPS.out, HC2.out]
            omega
          · rw [HC2.out]
            exact Nat.le_trans (Nat.sub_le _ _) hmax
          · exact HB73.out.trans HB9.out
        case measure => simp [Go.RowKit.intOf]; omega
      · obtain rfl : M = k := by omega
        have dk : decide ((M : Int) < (M : Int)) = false := by simp
        have HOK := Lib.hid (HCS.out HFIT.out)
        clear hlt hk
        go_wp2_with fail
        go_ret
        exact ⟨.inl ⟨rs, ao, co, HOK.out, HDS.out, by rw [hsl]; rfl, by rw [hsl]; exact HO.out, HER.out⟩, HBW.out⟩
end Go.Proofs.Ythehcbbdkiomnaa
end
section

/- chain.Read: all chains of a table. Conditions: as many bytes as the slice says, no more than a hundred million. -/
namespace Go.Proofs.Ythehcbbdkiomnaa
open Go.RowKit Go.Lib

theorem ChsIs.mono {L B B' co : Nat} {ao : Option Addr} {rs : List ChR} {w : World} (h : ChsIs L B ao co rs w) (hB : B' ≤ B) : ChsIs L B' ao co rs w := ⟨owns_mono h.row hB, h.each⟩
/-- A store into a block of another kind. -/
theorem ChsIs.setOther {L B co g3 o : Nat} {ao : Option Addr} {rs : List ChR} {w : World} {cs : Array Value} {t : Nat} {fz : Nat × Nat} (h : ChsIs L B ao co rs w) (hw : w.heap[g3]? = some (.cells cs t fz)) (h1 : t ≠ 5) (h2 : 85 ≠ t) (h3 : 91 ≠ t) (h4 : t ≠ 80) (hL : L ≤ g3) (v : Value) : ChsIs L B ao co rs (w.setCell ⟨g3, o, none⟩ v) :=
  ⟨set_owns v h.row (own_neE h.row hw h4), fun r hr => (h.each r hr).set hw h1 h2 h3 hL o v⟩
def HRead1R (L B : Nat) (w : World) (g1 : Nat) (bs : List UInt8) (ok : Bool) (w' : World) : Prop :=
  (ok = true ∧ ∃ rs ao co, CsOk bs ∧ rs.map ChR.d = csD bs (num bs 4 4) ∧ w'.heap[g1]? = some (.cells #[.slice ao rs.length co] 61 (0, 0)) ∧ ChsIs L w.heap.size ao co rs w' ∧ Below B w w' ∧ w.heap.size ≤ w'.heap.size) ∨
  (ok = false ∧ ¬ CsOk bs ∧ Below w.heap.size w w')
theorem enter_hread1 (args : Array Value) (w : World) : (callFunc 56 args).run Try.prog w = .ok (.enter 56 args) w := by kernel_rfl
set_option maxRecDepth 100000 in
set_option maxHeartbeats 1600000 in
theorem hread1_any (L B : Nat) (a : Option Addr) (n c : Nat) (bs : List UInt8) (g0 g1 : Nat) (x : Value) (w : World) (h : 0 < bs.length → BHas L a bs w) (hl : bs.length = n) (hn : n ≤ c) (hc : c ≤ maxLen) (hsz : n ≤ 100000000) (hLw : L ≤ w.heap.size) (hB : B ≤ g1) (hL : L ≤ g1)
    (c0 : w.cell? ⟨g0, 0, none⟩ = some (.slice a n c)) (c1 : w.heap[g1]? = some (.cells #[x] 61 (0, 0))) :
    Calls Try.prog 56 #[.pointer (some ⟨g0, 0, none⟩), .pointer (some ⟨g1, 0, none⟩)] w
      fun e w' => (e = .returned (.tuple #[]) ∧ HRead1R L B w g1 bs true w') ∨ (e = .panicked thrown ∧ HRead1R L B w g1 bs false w') := by
  have C1 := Lib.hid c1
  have l0 := cell_lt c0
  have l1 := (Array.getElem?_eq_some_iff.1 c1).1
  simp only at l0
  have HT := Lib.hid (fun W (hW : Below w.heap.size w W) => htake_any L a n c bs W (fun h0 => (h h0).below hW) hl hn hc hsz (Nat.le_trans hLw hW.size))
  clear h hl c1
  go_enter Try.func56, Try.ntmps56
  go_wp2_with (first | (go_at_call 31; (with_reducible refine (of_any _ _ _ _).mono ?_); rintro e wa ⟨rfl, hba⟩; have hac := bc hba; have haf := bf hba; have haz := hba.size; try simp only [World.size_alloc, World.size_drew] at haz))
  refine (HT.out _ (by exact blw)).mono ?_
  rintro e wb ⟨(⟨rs, ao, co, hok, hd, rfl, hrow⟩ | ⟨hno, rfl⟩), hbb⟩
  case inr =>
    have HNO := Lib.hid hno
    have HBB := Lib.hid (show Below w.heap.size w wb from blw)
    clear hno hbb hba hac haf
    go_wp2_with fail
    exact ⟨rfl, .inr ⟨rfl, .inr ⟨rfl, HNO.out, HBB.out⟩⟩⟩
  have HM := Lib.hid hrow
  have HBB := Lib.hid (show Below w.heap.size w wb from blw)
  have HOK := Lib.hid hok
  have HD := Lib.hid hd
  have c1b := (HBB.out.block g1 l1).trans C1.out
  have HC1 := Lib.hid c1b
  have q1 := cell_of_heap c1b 0
  have f1 := froz_of_heap c1b 0
  have hwa : w.heap.size ≤ wa.heap.size := haz
  clear hrow hok hbb hba hac haf c1b hd
  go_wp2_with fail
  go_end0
  refine .inl ⟨rfl, .inl ⟨rfl, rs, ao, co, HOK.out, HD.out, set_heap_at _ HC1.out, ?_, (HBB.out.mono (by omega)).setCell (p := ⟨g1, 0, none⟩) hB _, by simp; exact HBB.out.size⟩⟩
  exact (HM.out.mono hwa).setOther (o := 0) HC1.out (by decide) (by decide) (by decide) (by decide) hL _
def HReadIs (L : Nat) (bs : List UInt8) (w : World) (e : Ending) (w' : World) : Prop :=
  ((∃ rs ao co, CsOk bs ∧ rs.map ChR.d = csD bs (num bs 4 4) ∧ e = .returned (.tuple #[.slice ao rs.length co, .int .i64 0]) ∧ ChsIs L w.heap.size ao co rs w') ∨
   (¬ CsOk bs ∧ e = .returned (.tuple #[.slice none 0 0, .int .i64 2]))) ∧ Below w.heap.size w w'
set_option maxRecDepth 100000 in
set_option maxHeartbeats 1600000 in
theorem hread_any (L : Nat) (a : Option Addr) (n c : Nat) (bs : List UInt8) (w : World) (h : 0 < bs.length → BHas L a bs w) (hl : bs.length = n) (hn : n ≤ c) (hc : c ≤ maxLen) (hsz : n ≤ 100000000) (hLw : L ≤ w.heap.size) :
    Calls Try.prog 22 #[.slice a n c] w (HReadIs L bs w) := by
  have HH := Lib.hid h
  have HL := Lib.hid hl
  clear h hl
  have hAC := allocC
  have hAF := allocF
  have hmf : ∀ (fn : Fn) (first cap : Array Value) (w : World), (Instr.makeFunc fn first cap).run Try.prog w = .ok (.func fn first cap) w := fun _ _ _ _ => rfl
  go_enter Try.func22, Try.ntmps22
  go_wp2_with fail
  obtain ⟨W, hW⟩ : ∃ W, W = (w.alloc (Obj.cells #[.slice a n c] 22)).alloc (Obj.cells #[.slice none 0 0] 61) := ⟨_, rfl⟩
  have hb : Below w.heap.size w W := by rw [hW]; exact blw
  have hz : W.heap.size = w.heap.size + 2 := by rw [hW]; simp
  have c0 : W.cell? ⟨w.heap.size, 0, none⟩ = some (.slice a n c) := by rw [hW]; simp [hAC]
  have c1 : W.heap[w.heap.size + 1]? = some (.cells #[.slice none 0 0] 61 (0, 0)) := by rw [hW, heap_push, if_pos (by simp)]
  rw [← hW]
  clear hW
  have HB := Lib.hid hb
  clear hb
  have HT := Lib.hid (try_any 56 _ W (HRead1R L w.heap.size W (w.heap.size + 1) bs) (enter_hread1 _)
    (hread1_any L w.heap.size a n c bs _ _ _ _ (fun h0 => (HH.out h0).below HB.out) HL.out hn hc hsz (by omega) (by omega) (by omega) c0 c1))
  have C1 := Lib.hid c1
  clear c0 c1
  refine HT.out.mono ?_
  rintro r w2 ⟨ok, rfl, (⟨rfl, rs, ao, co, hok, hd, hG, hm, hb2, hz2⟩ | ⟨rfl, hno, hb2⟩)⟩
  case inr =>
    have HNO := Lib.hid hno
    have HB2 := Lib.hid (HB.out.trans (hb2.mono HB.out.size))
    have h1 := (hb2.block (w.heap.size + 1) (by omega)).trans C1.out
    have q1 := cell_of_heap h1 0
    have f1 := fun o => froz_of_heap h1 o
    simp only [List.getElem?_toArray, List.getElem?_cons_zero] at q1
    have hl1 := cell_lt q1
    simp only at hl1
    clear hno hb2 HT h1 hz
    go_wp2_with fail
    refine bodyPost_ret (v := .tuple #[.slice none 0 0, .int .i64 2]) (by simp [results, Try.results22, go_sem, q1, f1]) rfl ?_
    exact ⟨.inr ⟨HNO.out, rfl⟩, by repeat (first | with_reducible exact HB2.out | refine bset ?_ (by show w.heap.size ≤ w.heap.size + 1; omega) _)⟩
  have HOK := Lib.hid hok
  have HD := Lib.hid hd
  have HB2 := Lib.hid (HB.out.trans hb2)
  have HM := Lib.hid hm
  have HG := Lib.hid hG
  have q1 := cell_of_heap hG 0
  have f1 := fun o => froz_of_heap hG o
  simp only [List.getElem?_toArray, List.getElem?_cons_zero] at q1
  have hl1 := cell_lt q1
  simp only at hl1
  have HZ := Lib.hid hz
  clear hok hb2 hG hm HT hz hd
  go_wp2_with fail
  have z1 := set_heap_at (o := 0) (.slice ao rs.length co) HG.out
  simp only [List.setIfInBounds_toArray, List.set_cons_zero] at z1
  have qq := cell_of_heap z1 0
  simp only [List.getElem?_toArray, List.getElem?_cons_zero] at qq
  have hzW : w.heap.size ≤ W.heap.size := HB.out.size
  refine bodyPost_ret (v := .tuple #[.slice ao rs.length co, .int .i64 0]) (by simp [results, Try.results22, go_sem, q1, qq]) rfl ?_
  exact ⟨.inl ⟨rs, ao, co, HOK.out, HD.out, rfl, (HM.out.mono hzW).setOther (o := 0) HG.out (by decide) (by decide) (by decide) (by decide) (by omega) _⟩, HB2.out.setCell (p := ⟨w.heap.size + 1, 0, none⟩) (Nat.le_succ _) _⟩
end Go.Proofs.Ythehcbbdkiomnaa
end
section

/- The statement's own speaks and big of layer 19. No condition beside what each says. -/
namespace Go.Proofs.Ythehcbbdkiomnaa
open Go.RowKit Go.Lib

theorem bhas_of_owns {w : World} {L base n c m : Nat} {a : Option Addr} {bs : List UInt8} (h : w.ownsRow base 5 1 (.slice a m c) n (bytesV bs)) : BHas L a bs w := by
  refine ⟨has_of_owns h, fun p hp => .inr ?_⟩
  rcases h.2 with ⟨hv, _⟩ | ⟨g, cap, cur, hv, _, hh, _⟩
  · injection hv with h1 h2 h3
    rw [hp] at h1
    cases h1
  · injection hv with h1 h2 h3
    rw [hp] at h1
    cases h1
    exact ⟨_, _, hh⟩
theorem one_list {α β : Type} {f : α → β} {l : List α} {x : β} (h : l.map f = [x]) : ∃ r, l = [r] ∧ f r = x := by
  match l with
  | [] => simp at h
  | [r] => exact ⟨r, rfl, by simpa using h⟩
  | r :: s :: l => simp at h
def spkP (w : World) : LCh := ⟨5, some ⟨w.heap.size, 0, none⟩, 1, [⟨1, 2, 3, 0⟩], some ⟨w.heap.size + 2, 0, none⟩, 1, [⟨4, 1, some ⟨w.heap.size + 1, 0, none⟩, 1, [7]⟩], 0⟩
set_option maxRecDepth 100000 in
set_option maxHeartbeats 6400000 in
theorem speaks19_any (w : World) : Calls Try.prog 21 #[] w fun e w' => e = .returned (.bool true) ∧ Below w.heap.size w w' := by
  have hAC := allocC
  have hAF := allocF
  obtain ⟨w1, h1⟩ : ∃ w1, w1 = w.alloc (Obj.cells #[.int .u16 1, .int .u16 2, .int .u32 3, .int .u32 0] 83) := ⟨_, rfl⟩
  obtain ⟨w2, h2⟩ : ∃ w2, w2 = w1.alloc (Obj.cells #[.int .u8 7] 5) := ⟨_, rfl⟩
  obtain ⟨w3, h3⟩ : ∃ w3, w3 = w2.alloc (Obj.cells #[.int .u32 4, .int .u32 1, .slice (some ⟨w.heap.size + 1, 0, none⟩) 1 1] 87) := ⟨_, rfl⟩
  obtain ⟨w4, h4⟩ : ∃ w4, w4 = w3.alloc (Obj.cells #[.int .u32 5, .slice (some ⟨w.heap.size, 0, none⟩) 1 1, .slice (some ⟨w.heap.size + 2, 0, none⟩) 1 1, .int .u8 0] 76) := ⟨_, rfl⟩
  have z1 : w1.heap.size = w.heap.size + 1 := by rw [h1, World.size_alloc]
  have z2 : w2.heap.size = w.heap.size + 2 := by rw [h2, World.size_alloc, z1]
  have z3 : w3.heap.size = w.heap.size + 3 := by rw [h3, World.size_alloc, z2]
  have z4 : w4.heap.size = w.heap.size + 4 := by rw [h4, World.size_alloc, z3]
  have b1 : Below w.heap.size w w1 := by rw [h1]; exact balloc (brefl w) _
  have b2 : Below w1.heap.size w1 w2 := by rw [h2]; exact balloc (brefl w1) _
  have b3 : Below w2.heap.size w2 w3 := by rw [h3]; exact balloc (brefl w2) _
  have b4 : Below w3.heap.size w3 w4 := by rw [h4]; exact balloc (brefl w3) _
  have g1 := has_alloc w #[.int .u16 1, .int .u16 2, .int .u32 3, .int .u32 0] 83
  have g2 := has_alloc w1 #[.int .u8 7] 5
  have g3 := has_alloc w2 #[.int .u32 4, .int .u32 1, .slice (some ⟨w.heap.size + 1, 0, none⟩) 1 1] 87
  have g4 := has_alloc w3 #[.int .u32 5, .slice (some ⟨w.heap.size, 0, none⟩) 1 1, .slice (some ⟨w.heap.size + 2, 0, none⟩) 1 1, .int .u8 0] 76
  rw [← h1] at g1
  rw [← h2, z1] at g2
  rw [← h3, z2] at g3
  rw [← h4, z3] at g4
  have t3 : Below w3.heap.size w3 w4 := b4
  have t2 : Below w2.heap.size w2 w4 := bthen b3 b4
  have t1 : Below w1.heap.size w1 w4 := bthen b2 t2
  have t0 : Below w.heap.size w w4 := bthen b1 t1
  have hok : (spkP w).Ok w4 := ⟨(show (5 : Nat) ≤ 4294967295 by decide), (show (0 : Nat) ≤ 255 by decide), fun r hr => by
    simp only [spkP, List.mem_singleton] at hr
    subst hr
    decide, fun s hs => by
    simp only [spkP, List.mem_singleton] at hs
    subst hs
    exact ⟨(show (4 : Nat) ≤ 4294967295 by decide), (show (1 : Nat) ≤ 4294967295 by decide), g2.below t2, fun h => by cases h⟩, g1.below t1, g3.below t3⟩
  have hfew : (spkP w).Few := ⟨by show 1 ≤ 40; decide, by show 1 ≤ 10; decide, fun s hs => by
    simp only [spkP, List.mem_singleton] at hs
    subst hs
    show 1 ≤ 400
    decide⟩
  have hwr := write19_any (some ⟨w.heap.size + 3, 0, none⟩) 1 1 [spkP w] w4 g4 rfl (fun p hp => by
    simp only [List.mem_singleton] at hp
    subst hp
    exact hok) (by decide) (fun p hp => by
    simp only [List.mem_singleton] at hp
    subst hp
    exact hfew)
  have hbk := chs_back (ps := [spkP w]) [] (fun p hp => by
    simp only [List.mem_singleton] at hp
    subst hp
    exact hok.wf) (fun p hp => by
    simp only [List.mem_singleton] at hp
    subst hp
    exact hfew) (show 1 ≤ 10 by decide)
  rw [List.append_nil] at hbk
  have hbl : (chsB [spkP w]).length ≤ 5000 := by
    have h1 := chsL_le [spkP w] (fun p hp => by
      simp only [List.mem_singleton] at hp
      subst hp
      exact hfew)
    have h2 : ([spkP w] : List LCh).length = 1 := rfl
    rw [h2] at h1
    rw [chsB_length]
    omega
  obtain ⟨BS, hBS⟩ : ∃ BS, BS = chsB [spkP w] := ⟨_, rfl⟩
  rw [← hBS] at hwr hbk hbl
  have HWR := Lib.hid hwr
  have HBK := Lib.hid hbk
  have HT0 := Lib.hid t0
  have HD : List.map LCh.d [spkP w] = [⟨5, [⟨1, 2, 3, 0⟩], [⟨4, 1, [7]⟩]⟩] := rfl
  rw [HD] at HBK
  clear hok hfew hwr hbk hBS g1 g2 g3 g4 t0 t1 t2 t3 b1 b2 b3 b4 HD
  go_enter Try.func21, Try.ntmps21
  go_wp2_with fail
  simp only [World.size_alloc, Nat.add_assoc, Nat.reduceAdd]
  rw [← h1, ← h2, ← h3, ← h4]
  refine HWR.out.mono ?_
  rintro e w5 ⟨a5, c5, rfl, ho5, k51, k52, _, hb5⟩
  have HB5 := Lib.hid (HT0.out.trans (hb5.mono HT0.out.size))
  have HBH := Lib.hid (bhas_of_owns (L := 0) ho5)
  clear h1 h2 h3 h4 z1 z2 z3 z4 ho5 hb5 HWR
  go_wp2_with fail
  refine (hread_any 0 a5 BS.length c5 BS w5 (fun _ => HBH.out) rfl k51 k52 (by omega) (Nat.zero_le _)).mono ?_
  rintro e w6 ⟨(⟨rs, ao, co, _, hd, rfl, hrs⟩ | ⟨hno, _⟩), hb6⟩
  case inr => exact absurd HBK.out.1 hno
  rw [HBK.out.2] at hd
  have HB6 := Lib.hid (HB5.out.trans (hb6.mono HB5.out.size))
  obtain ⟨r, rfl, hdd⟩ := one_list hd
  have hr := hrs.each r (by simp)
  have hrow := hrs.row
  obtain ⟨rf, rar, rcr, rsa, rsc, rru, rsu⟩ := r
  have hd : (⟨rf, rru, rsu.map SubR.d⟩ : ChD) = ⟨5, [⟨1, 2, 3, 0⟩], [⟨4, 1, [7]⟩]⟩ := hdd
  injection hd with hd1 hd2 hd3
  subst hd1 hd2
  obtain ⟨s, rfl, hs⟩ := one_list hd3
  obtain ⟨sco, sfl, sa, sn, sc, sbs⟩ := s
  have hs : (⟨sco, sfl, sbs⟩ : SubD9) = ⟨4, 1, [7]⟩ := hs
  injection hs with e1 e2 e3
  subst e1 e2 e3
  have hsn : 1 = sn := (hr.each _ (List.mem_singleton.2 rfl)).len
  subst hsn
  obtain ⟨gA, csA, uA, haA, hgA, hhA, hcA, huA, hfA, hsA⟩ := row_at hrow 0 (show 0 < 1 * 3 by decide)
  subst haA
  clear hgA hhA hcA huA hfA hsA
  have k0 := (hrow.cellAt 0 (show 0 < 1 * 3 by decide)).trans (show _ = some (Value.int .u32 5) from rfl)
  have k1 := (hrow.cellAt 1 (show 1 < 1 * 3 by decide)).trans (show _ = some (Value.slice rar 1 rcr) from rfl)
  have k2 := (hrow.cellAt 2 (show 2 < 1 * 3 by decide)).trans (show _ = some (Value.slice rsa 1 rsc) from rfl)
  obtain ⟨bR, oR, hbR, hlR, hcR⟩ := flat_cells (f := RuD.enc) (z := 4) (fun _ => rfl) (by decide) hr.rules.1 (show ([⟨1, 2, 3, 0⟩] : List RuD)[0]? = some ⟨1, 2, 3, 0⟩ from rfl)
  obtain ⟨bS, oS, hbS, hlS, hcS⟩ := flat_cells (f := SubR.enc) (z := 3) (fun _ => rfl) (by decide) hr.subs.1 (show ([⟨4, 1, sa, 1, sc, [7]⟩] : List SubR)[0]? = some ⟨4, 1, sa, 1, sc, [7]⟩ from rfl)
  have m2 : w6.cell? ⟨bR, oR + 0 * 4 + 2, none⟩ = some (.int .u32 3) := hcR 2 (by decide) _ rfl
  have n2 := hcS 2 (by decide) _ rfl
  simp only [Nat.zero_mul, Nat.add_zero] at m2 n2
  (try simp only at hbR hbS)
  subst hbR hbS
  have lA := cell_lt k0
  simp only at lA
  clear hcR hcS hrow hr hrs hb6
  go_wp2_with (first | (go_at_call 55; (with_reducible refine (len_any _ _ _ _).mono ?_); rintro e w9 ⟨rfl, hb9⟩; have h9c := bc hb9; have h9f := bf hb9; have h9z := hb9.size; try simp only [World.size_alloc, World.size_drew] at h9z))
  go_ret
  exact ⟨rfl, HB6.out.trans (hb9.mono HB6.out.size)⟩
end Go.Proofs.Ythehcbbdkiomnaa
end
