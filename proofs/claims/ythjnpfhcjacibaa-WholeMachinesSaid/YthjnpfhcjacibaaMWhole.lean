
/- The plan that is gathered out of a machine's own classes and steps, each step with an entry of its own: what its bytes tell. No walk in here. Conditions: as the lemmas say. -/
import Derived.Test.YthjnpfhcjacibaaMPlan
namespace Go.Proofs.Ythjnpfhcjacibaa
open Go.RowKit Go.Lib

theorem u8_of {n : Nat} (h : n < 256) : (UInt8.ofNat n).toNat = n := by
  rw [UInt8.toNat_ofNat']
  omega
def clsQ (b : List UInt8) (rs : List RP) (n : Nat) : List UInt8 := (List.range n).map fun id => UInt8.ofNat (classM b rs (id : Nat))
def rowQ (C s n : Nat) : List UInt8 := (List.range n).map fun c => UInt8.ofNat (s * C + c)
def rowsQ (C S : Nat) : List (List UInt8) := (List.range S).map fun s => rowQ C s C
def entQ (b : List UInt8) (i : Nat) : Int × Int × Int × Int :=
  (((num (b.drop (num b 12 4)) (entN b i * 8) 2 : Nat) : Int), ((num (b.drop (num b 12 4)) (entN b i * 8 + 2) 2 : Nat) : Int), ((num (b.drop (num b 12 4)) (entN b i * 8 + 4) 2 : Nat) : Int), ((num (b.drop (num b 12 4)) (entN b i * 8 + 6) 2 : Nat) : Int))
def entsQ (b : List UInt8) (n : Nat) : List (Int × Int × Int × Int) := (List.range n).map (entQ b)
def planQ (b : List UInt8) (rs : List RP) (S : Nat) : PlanL := ⟨clsQ b rs 40, rowsQ (num b 0 4) S, entsQ b (S * num b 0 4), UInt8.ofNat (num b 0 4 - 4)⟩
theorem clsQ_succ (b : List UInt8) (rs : List RP) (n : Nat) : clsQ b rs (n + 1) = clsQ b rs n ++ [UInt8.ofNat (classM b rs (n : Nat))] := by simp [clsQ, List.range_succ]
theorem rowQ_succ (C s n : Nat) : rowQ C s (n + 1) = rowQ C s n ++ [UInt8.ofNat (s * C + n)] := by simp [rowQ, List.range_succ]
theorem rowsQ_succ (C S : Nat) : rowsQ C (S + 1) = rowsQ C S ++ [rowQ C S C] := by simp [rowsQ, List.range_succ]
theorem entsQ_succ (b : List UInt8) (n : Nat) : entsQ b (n + 1) = entsQ b n ++ [entQ b n] := by simp [entsQ, List.range_succ]
theorem planQ_n (b : List UInt8) (rs : List RP) (S : Nat) (h4 : 4 ≤ num b 0 4) (h : num b 0 4 ≤ 11) : (planQ b rs S).n = num b 0 4 := by
  show 4 + (UInt8.ofNat (num b 0 4 - 4)).toNat % 8 = _
  rw [u8_of (by omega)]
  omega
theorem planQ_cls (b : List UInt8) (rs : List RP) (S : Nat) : (planQ b rs S).cls.length = 40 := by simp [planQ, clsQ]
theorem planQ_rows (b : List UInt8) (rs : List RP) (S : Nat) : (planQ b rs S).rows.length = S := by simp [planQ, rowsQ]
theorem planQ_ents (b : List UInt8) (rs : List RP) (S : Nat) : (planQ b rs S).ents.length = S * num b 0 4 := by simp [planQ, entsQ]
theorem planQ_wf (b : List UInt8) (rs : List RP) (S : Nat) : ∀ e ∈ (planQ b rs S).ents, wfI e.1 ∧ wfI e.2.1 ∧ wfI e.2.2.1 ∧ wfI e.2.2.2 := by
  intro e he
  obtain ⟨i, _, rfl⟩ := List.mem_map.1 he
  have h0 := num2_lt (b.drop (num b 12 4)) (entN b i * 8)
  have h2 := num2_lt (b.drop (num b 12 4)) (entN b i * 8 + 2)
  have h4 := num2_lt (b.drop (num b 12 4)) (entN b i * 8 + 4)
  have h6 := num2_lt (b.drop (num b 12 4)) (entN b i * 8 + 6)
  unfold entQ wfI
  dsimp only
  omega
theorem m16_of {n : Nat} (h : n ≤ 65535) : m16 (n : Nat) = n := by unfold m16; omega
/-- A number of an entry, in bytes of entries of eight bytes. -/
theorem entPB_num (e : Int × Int × Int × Int) (Z : List UInt8) : num (entPB 2 e ++ Z) 0 2 = m16 e.1 ∧ num (entPB 2 e ++ Z) 2 2 = m16 e.2.1 ∧ num (entPB 2 e ++ Z) 4 2 = m16 e.2.2.1 ∧ num (entPB 2 e ++ Z) 6 2 = m16 e.2.2.2 := by
  unfold entPB
  simp only [show (0 : Nat) < 2 by omega, show (1 : Nat) < 2 by omega, if_true, List.append_assoc]
  refine ⟨numB2 _ _ (m16_lt _), ?_, ?_, ?_⟩
  · rw [numR _ _ 2 0 2 (by rw [beN_length]), numB2 _ _ (m16_lt _)]
  · rw [numR _ _ 4 2 2 (by rw [beN_length]), numR _ _ 2 0 2 (by rw [beN_length]), numB2 _ _ (m16_lt _)]
  · rw [numR _ _ 6 4 2 (by rw [beN_length]), numR _ _ 4 2 2 (by rw [beN_length]), numR _ _ 2 0 2 (by rw [beN_length]), numB2 _ _ (m16_lt _)]
theorem entsPB_num : ∀ (l : List (Int × Int × Int × Int)) (j : Nat) (e : Int × Int × Int × Int), l[j]? = some e → num (entsPB 2 l) (j * 8) 2 = m16 e.1 ∧ num (entsPB 2 l) (j * 8 + 2) 2 = m16 e.2.1 ∧ num (entsPB 2 l) (j * 8 + 4) 2 = m16 e.2.2.1 ∧ num (entsPB 2 l) (j * 8 + 6) 2 = m16 e.2.2.2 := by
  intro l
  induction l with
  | nil => intro j e h; simp at h
  | cons x l ih =>
    intro j e h
    rw [show entsPB 2 (x :: l) = entPB 2 x ++ entsPB 2 l from rfl]
    match j, h with
    | 0, h =>
      simp at h
      subst h
      simpa using entPB_num x (entsPB 2 l)
    | j + 1, h =>
      have hl : (entPB 2 x).length = 8 := entPB_length 2 x (by omega)
      have e1 : (j + 1) * 8 = j * 8 + 8 := Nat.succ_mul j _
      rw [numR _ _ ((j + 1) * 8) (j * 8) _ (by omega), numR _ _ ((j + 1) * 8 + 2) (j * 8 + 2) _ (by omega), numR _ _ ((j + 1) * 8 + 4) (j * 8 + 4) _ (by omega), numR _ _ ((j + 1) * 8 + 6) (j * 8 + 6) _ (by omega)]
      exact ih j e (by simpa using h)
theorem planW_ents (p : PlanL) (h : 22 + 2 * p.cls.length + 2 * (p.rows.length * p.n) ≤ 65535) : num (planB p 2 0) 12 4 = 22 + 2 * p.cls.length + 2 * (p.rows.length * p.n) := by
  simp only [planB, List.append_assoc]
  rw [numR _ _ 12 8 4 (by rw [beN_length]), numR _ _ 8 4 4 (by rw [beN_length]), numR _ _ 4 0 4 (by rw [beN_length]), numB4 _ _ (by omega)]
  omega
theorem planW_at (p : PlanL) : num (planB p 2 0) 4 4 = 16 := by
  simp only [planB, List.append_assoc]
  rw [numR _ _ 4 0 4 (by rw [beN_length]), numB4 _ _ (by omega)]
theorem planW_drop (p : PlanL) : (planB p 2 0).drop 16 = ofB p.cls ++ clsB p.cls ++ (rowsPB p.rows p.n ++ entsPB 2 p.ents) := by
  unfold planB
  rw [List.append_assoc _ (rowsPB p.rows p.n), List.append_assoc _ (ofB p.cls ++ clsB p.cls)]
  exact List.drop_left' (by simp only [List.length_append, beN_length, List.length_replicate])
theorem planW_dropE (p : PlanL) (h : 22 + 2 * p.cls.length + 2 * (p.rows.length * p.n) ≤ 65535) : (planB p 2 0).drop (num (planB p 2 0) 12 4) = entsPB 2 p.ents := by
  rw [planW_ents p h]
  unfold planB
  exact List.drop_left' (by simp only [ofB, List.length_append, beN_length, List.length_replicate, clsB_length, rowsPB_length]; omega)
theorem planW_lk (cls : List UInt8) (Z : List UInt8) (glyphs : Nat) (h : cls.length ≤ 40) : LkOk (ofB cls ++ clsB cls ++ Z) glyphs 2 (rowsT 0 cls.length 6 2) := by
  have hl : (ofB cls).length = 6 := by simp [ofB, beN_length]
  have n0 : num (ofB cls ++ clsB cls ++ Z) 0 2 = 8 := by
    simp only [ofB, List.append_assoc]
    exact numB2 _ _ (by omega)
  have n2 : num (ofB cls ++ clsB cls ++ Z) 2 2 = 0 := by
    simp only [ofB, List.append_assoc]
    rw [numR _ _ 2 0 2 (by rw [beN_length])]
    exact numB2 _ _ (by omega)
  have n4 : num (ofB cls ++ clsB cls ++ Z) 4 2 = cls.length := by
    simp only [ofB, List.append_assoc]
    rw [numR _ _ 4 2 2 (by rw [beN_length]), numR _ _ 2 0 2 (by rw [beN_length])]
    exact numB2 _ _ (by omega)
  have hrw := LkRows.eight (bs := ofB cls ++ clsB cls ++ Z) (glyphs := glyphs) (size := 2) (by simp only [List.length_append]; omega) n0 (by omega)
  rw [n2, n4] at hrw
  refine ⟨hrw, ?_⟩
  by_cases h0 : cls.length = 0
  · unfold rowsT
    rw [if_pos h0]
    intro i r hr
    simp at hr
  · exact (ok_rowsT _ _ _ _ _ (by simp only [List.length_append]; omega)).2 (by simp only [List.length_append, clsB_length]; omega)
/-- What is small enough to be gathered. -/
structure QSmall (b : List UInt8) (S : Nat) : Prop where
  c4 : 4 ≤ num b 0 4
  c11 : num b 0 4 ≤ 11
  few : S * num b 0 4 ≤ 250
theorem planQ_fit {b : List UInt8} {rs : List RP} {S : Nat} (h : QSmall b S) : 22 + 2 * (planQ b rs S).cls.length + 2 * ((planQ b rs S).rows.length * (planQ b rs S).n) = 102 + 2 * (S * num b 0 4) := by
  rw [planQ_cls, planQ_rows, planQ_n _ _ _ h.c4 h.c11]
theorem planQ_len {b : List UInt8} {rs : List RP} {S : Nat} (h : QSmall b S) : (planB (planQ b rs S) 2 0).length = 102 + 10 * (S * num b 0 4) := by
  have := planQ_fit (rs := rs) h
  rw [planB_length _ _ _ (by omega), planQ_ents]
  omega
theorem planQ_own {b : List UInt8} {rs : List RP} {S i : Nat} (h : QSmall b S) (hi : i < S * num b 0 4) : entN (planB (planQ b rs S) 2 0) i = i := by
  have hC : 0 < num b 0 4 := by have := h.c4; omega
  have hf := planQ_fit (rs := rs) h
  have hfew := h.few
  have hs : i / num b 0 4 < S := (Nat.div_lt_iff_lt_mul hC).2 hi
  have hc : i % num b 0 4 < num b 0 4 := Nat.mod_lt _ hC
  have hn := planQ_n b rs S h.c4 h.c11
  have e := plan_ent (planQ b rs S) 2 0 (by omega) (i / num b 0 4) (i % num b 0 4) (rowQ (num b 0 4) (i / num b 0 4) (num b 0 4)) (by
    show (rowsQ _ _)[_]? = _
    simp [rowsQ, hs]) (by omega)
  rw [hn] at e
  have hd : i / num b 0 4 * num b 0 4 + i % num b 0 4 = i := Nat.div_add_mod' _ _
  rw [hd] at e
  rw [e]
  have hg : (rowQ (num b 0 4) (i / num b 0 4) (num b 0 4)).getD (i % num b 0 4) 0 = UInt8.ofNat i := by
    unfold rowQ
    rw [List.getD_eq_getElem?_getD, List.getElem?_map, List.getElem?_range hc]
    show UInt8.ofNat (i / num b 0 4 * num b 0 4 + i % num b 0 4) = _
    rw [hd]
  rw [hg]
  exact u8_of (by omega)
theorem planQ_num {b : List UInt8} {rs : List RP} {S j : Nat} (h : QSmall b S) (hj : j < S * num b 0 4) :
    num ((planB (planQ b rs S) 2 0).drop (num (planB (planQ b rs S) 2 0) 12 4)) (j * 8) 2 = num (b.drop (num b 12 4)) (entN b j * 8) 2 ∧
    num ((planB (planQ b rs S) 2 0).drop (num (planB (planQ b rs S) 2 0) 12 4)) (j * 8 + 2) 2 = num (b.drop (num b 12 4)) (entN b j * 8 + 2) 2 ∧
    num ((planB (planQ b rs S) 2 0).drop (num (planB (planQ b rs S) 2 0) 12 4)) (j * 8 + 4) 2 = num (b.drop (num b 12 4)) (entN b j * 8 + 4) 2 ∧
    num ((planB (planQ b rs S) 2 0).drop (num (planB (planQ b rs S) 2 0) 12 4)) (j * 8 + 6) 2 = num (b.drop (num b 12 4)) (entN b j * 8 + 6) 2 := by
  have hf := planQ_fit (rs := rs) h
  have hfew := h.few
  rw [planW_dropE _ (by omega)]
  obtain ⟨h0, h2, h4, h6⟩ := entsPB_num (planQ b rs S).ents j (entQ b j) (by
    show (entsQ _ _)[_]? = _
    simp [entsQ, hj])
  rw [h0, h2, h4, h6]
  exact ⟨m16_of (num2_lt _ _), m16_of (num2_lt _ _), m16_of (num2_lt _ _), m16_of (num2_lt _ _)⟩
theorem planQ_entA {b : List UInt8} {rs : List RP} {S j : Nat} (h : QSmall b S) (hj : j < S * num b 0 4) :
    entA ((planB (planQ b rs S) 2 0).drop (num (planB (planQ b rs S) 2 0) 12 4)) 2 j = entA (b.drop (num b 12 4)) 2 (entN b j) := by
  obtain ⟨h0, h2, h4, h6⟩ := planQ_num (rs := rs) h hj
  simp only [entA, show (0 : Nat) < 2 by omega, show (1 : Nat) < 2 by omega, if_true, show 4 + 2 * 2 = 8 from rfl, h0, h2, h4, h6]
theorem nextN_drop (b : List UInt8) (k j : Nat) : nextN b k j = num (b.drop (num b 12 4)) (j * (4 + 2 * k)) 2 := by unfold nextN; rw [num_dropS]
theorem planQ_next {b : List UInt8} {rs : List RP} {S j : Nat} (h : QSmall b S) (hj : j < S * num b 0 4) : nextN (planB (planQ b rs S) 2 0) 2 j = nextN b 2 (entN b j) := by
  rw [nextN_drop, nextN_drop]
  exact (planQ_num (rs := rs) h hj).1
theorem planQ_needE {b : List UInt8} {rs : List RP} {S m : Nat} (h : QSmall b S) (hm : m ≤ S) : needE (planB (planQ b rs S) 2 0) m = m * num b 0 4 := by
  unfold needE
  rw [plan_cls, planQ_n _ _ _ h.c4 h.c11]
  have hle : m * num b 0 4 ≤ S * num b 0 4 := Nat.mul_le_mul_right _ hm
  generalize m * num b 0 4 = N at *
  refine Nat.le_antisymm (needL_le fun i hi => by rw [planQ_own h (by omega)]; exact hi) ?_
  match N with
  | 0 => exact Nat.zero_le _
  | N + 1 =>
    have := needL_lt (f := entN (planB (planQ b rs S) 2 0)) (n := N + 1) (i := N) (by omega)
    rw [planQ_own h (by omega)] at this
    omega
theorem planQ_closed {b : List UInt8} {rs : List RP} {S : Nat} (h : QSmall b S) (hc : MClosed b 2 S) : MClosed (planB (planQ b rs S) 2 0) 2 S := by
  refine ⟨hc.1, ?_⟩
  rw [planQ_needE h (Nat.le_refl _)]
  refine needL_le fun j hj => ?_
  rw [planQ_next h hj]
  have h1 : entN b j < needE b S := needL_lt hj
  have h2 : nextN b 2 (entN b j) < needS b 2 (needE b S) := needL_lt h1
  have h3 := hc.2
  omega
/-- The gathered plan's bytes are a machine of at most as many states. -/
theorem planQ_ok {b : List UInt8} {rs : List RP} {S : Nat} (h : QSmall b S) (hc : MClosed b 2 S) : ∃ S', S' ≤ S ∧ MOk (planB (planQ b rs S) 2 0) 40 2 (rowsT 0 40 6 2) S' := by
  obtain ⟨S', hL⟩ := ex_least (planB (planQ b rs S) 2 0) 2
  have hS : S' ≤ S := hL.least S (planQ_closed h hc)
  have hl := planQ_len (rs := rs) h
  have hf := planQ_fit (rs := rs) h
  have hfew := h.few
  have h4 := h.c4
  have h11 := h.c11
  have hn := planQ_n b rs S h4 h11
  have hcl := planQ_cls b rs S
  have hle : S' * num b 0 4 ≤ S * num b 0 4 := Nat.mul_le_mul_right _ hS
  refine ⟨S', hS, ⟨by omega, by rw [plan_cls, hn]; omega, by rw [planW_at]; omega, ?_, by rw [plan_rows _ _ _ (by omega)]; omega, by rw [planW_ents _ (by omega)]; omega, hL, ?_, ?_⟩⟩
  · rw [planW_at, planW_drop]
    have := planW_lk (planQ b rs S).cls (rowsPB (planQ b rs S).rows (planQ b rs S).n ++ entsPB 2 (planQ b rs S).ents) 40 (by omega)
    rwa [hcl] at this
  · rw [plan_cls, plan_rows _ _ _ (by omega), hn, hl, hcl, Nat.mul_left_comm]
    omega
  · rw [planQ_needE h hS, planW_ents _ (by omega), hl]
    omega
theorem classM_lt (b : List UInt8) (rs : List RP) (id : Int) (h : 4 ≤ num b 0 4) : classM b rs id < num b 0 4 := by
  unfold classM
  split
  · omega
  · dsimp only
    split
    · rename_i h'
      exact h'.2
    · omega
theorem clsB_num : ∀ (l : List UInt8) (i : Nat), i < l.length → ∀ Z, num (clsB l ++ Z) (i * 2) 2 = (l.getD i 0).toNat := by
  intro l
  induction l with
  | nil => intro i h; simp at h
  | cons x l ih =>
    intro i h Z
    rw [show clsB (x :: l) = beN 2 x.toNat ++ clsB l from rfl, List.append_assoc]
    match i with
    | 0 =>
      have := byte_le x
      rw [Nat.zero_mul, numB2 _ _ (by omega)]
      rfl
    | i + 1 =>
      rw [numR _ _ _ (i * 2) _ (by rw [beN_length]; omega), ih i (by simpa using h) Z]
      rfl
theorem planQ_class {b : List UInt8} {rs : List RP} {S : Nat} (h : QSmall b S) (id : Nat) (hid : id < 40) : classM (planB (planQ b rs S) 2 0) (rowsT 0 40 6 2) (id : Nat) = classM b rs (id : Nat) := by
  have hlt := classM_lt b rs (id : Nat) h.c4
  have h11 := h.c11
  have hcl := planQ_cls b rs S
  have hn := planQ_n b rs S h.c4 h11
  have hd := planW_drop (planQ b rs S)
  conv => lhs; unfold classM
  rw [if_neg (by omega)]
  dsimp only
  rw [planW_at, plan_cls, hn, hd]
  obtain ⟨ht1, ht2⟩ := tab_rowsT (ofB (planQ b rs S).cls ++ clsB (planQ b rs S).cls ++ (rowsPB (planQ b rs S).rows (planQ b rs S).n ++ entsPB 2 (planQ b rs S).ents)) 0 40 6 2
  rw [ht1, ht2]
  have hg : getL (trimPs 0 40) (numsA ((ofB (planQ b rs S).cls ++ clsB (planQ b rs S).cls ++ (rowsPB (planQ b rs S).rows (planQ b rs S).n ++ entsPB 2 (planQ b rs S).ents)).drop 6) 2 40) (id : Nat) = (classM b rs (id : Nat), true) := by
    have hp : trimPs 0 40 = [⟨0, 39, 0, 1⟩] := rfl
    have hi : inP (id : Nat) ⟨0, 39, 0, 1⟩ = true := by simp [inP]; omega
    rw [hp]
    unfold getL
    rw [List.find?_cons_of_pos hi]
    dsimp only
    rw [List.append_assoc, List.drop_left' (by simp [ofB, beN_length])]
    have hx : 0 + 1 * (((id : Nat) : Int) - ((0 : Nat) : Int)).toNat = id := by omega
    rw [hx]
    have hy : (numsA (clsB (planQ b rs S).cls ++ (rowsPB (planQ b rs S).rows (planQ b rs S).n ++ entsPB 2 (planQ b rs S).ents)) 2 40).getD id 0 = num (clsB (planQ b rs S).cls ++ (rowsPB (planQ b rs S).rows (planQ b rs S).n ++ entsPB 2 (planQ b rs S).ents)) (id * 2) 2 := by
      simp [numsA, List.getD_eq_getElem?_getD, hid]
    rw [hy, clsB_num _ _ (by omega)]
    have hz : (planQ b rs S).cls.getD id 0 = UInt8.ofNat (classM b rs (id : Nat)) := by
      show (clsQ b rs 40).getD id 0 = _
      simp [clsQ, List.getD_eq_getElem?_getD, hid]
    rw [hz, u8_of (by omega)]
  rw [hg]
  dsimp only
  rw [if_pos ⟨rfl, hlt⟩]
/-- The plan that the statement itself writes down first: two states of one entry, nine glyphs. -/
def planM : PlanL := ⟨[], [[0], [0]], [(1, 0, 0, 0)], 0⟩
def bytesM : List UInt8 := [0, 0, 0, 4, 0, 0, 0, 16, 0, 0, 0, 22, 0, 0, 0, 38, 0, 8, 0, 0, 0, 0, 0, 0, 0, 0, 0, 0, 0, 0, 0, 0, 0, 0, 0, 0, 0, 0, 0, 1, 0, 0, 0, 0, 0, 0]
theorem planM_bytes : planB planM 2 0 = bytesM := by decide
theorem okM : MOk bytesM 9 2 [] 2 := by
  refine ⟨by decide, by decide, by decide, ?_, by decide, by decide, ⟨by unfold MClosed; decide, fun S' h => h.1⟩, by decide, by decide⟩
  exact ⟨.eight (bs := bytesM.drop (num bytesM 4 4)) (glyphs := 9) (size := 2) (by decide) (by decide) (by decide), fun i r hr => by simp at hr⟩
theorem writeM (aC aR aE : Option Addr) (rv : List Value) (cC cR cE : Nat) (w : World) (h : PlanHas w planM aC aR rv aE) :
    Calls Try.prog 5 #[.agg #[.slice aC 0 cC, .slice aR 2 cR, .slice aE 1 cE, .int .u8 0], .int .i64 2, .int .i64 0] w fun e w' => ∃ a' c', e = .returned (.slice a' 46 c') ∧ w'.ownsRow w.heap.size 5 1 (.slice a' 46 c') 46 (bytesV bytesM) ∧ 46 ≤ c' ∧ c' ≤ maxLen ∧ Below w.heap.size w w' := by
  have := write_any planM 2 0 2 0 rfl rfl aC aR aE rv cC cR cE w h (by decide) (by decide) (by decide) (by decide) (by decide) (by
    intro e he
    simp only [planM, List.mem_cons, List.not_mem_nil, or_false] at he
    subst he
    unfold wfI
    decide)
  rw [planM_bytes] at this
  refine this.mono ?_
  rintro e w' ⟨a', c', h1, h2, h3, h4, _, h6⟩
  exact ⟨a', c', h1, h2, h3, h4, h6⟩
/-- The gathered plan written: its rows lie wherever the gathering put them. -/
theorem writeQ {b : List UInt8} {rs : List RP} {S : Nat} (h : QSmall b S) (h2 : 2 ≤ S) (zy : Int) (hzy : zy = ((num b 0 4 - 4 : Nat) : Int)) (aC aR aE : Option Addr) (rv : List Value) (cC cR cE : Nat) (w : World) (hp : PlanHas w (planQ b rs S) aC aR rv aE) :
    Calls Try.prog 5 #[.agg #[.slice aC 40 cC, .slice aR S cR, .slice aE (S * num b 0 4) cE, .int .u8 zy], .int .i64 2, .int .i64 0] w fun e w' => ∃ a' c', e = .returned (.slice a' (planB (planQ b rs S) 2 0).length c') ∧ w'.ownsRow w.heap.size 5 1 (.slice a' (planB (planQ b rs S) 2 0).length c') (planB (planQ b rs S) 2 0).length (bytesV (planB (planQ b rs S) 2 0)) ∧ (planB (planQ b rs S) 2 0).length ≤ c' ∧ c' ≤ maxLen ∧ Below w.heap.size w w' := by
  have hfew := h.few
  have h4 := h.c4
  have h11 := h.c11
  have hS : S ≤ S * num b 0 4 := Nat.le_mul_of_pos_right _ (by omega)
  have hw : (planQ b rs S).wide.toNat = num b 0 4 - 4 := u8_of (by omega)
  have := write_any (planQ b rs S) 2 0 2 0 rfl rfl aC aR aE rv cC cR cE w hp (by rw [planQ_cls]; omega) (by rw [planQ_rows]; omega) (by rw [planQ_ents]; omega) (by omega) (by omega) (planQ_wf b rs S)
  rw [hw, planQ_cls, planQ_rows, planQ_ents] at this
  subst hzy
  refine this.mono ?_
  rintro e w' ⟨a', c', k1, k2, k3, k4, _, k6⟩
  exact ⟨a', c', k1, k2, k3, k4, k6⟩
end Go.Proofs.Ythjnpfhcjacibaa
