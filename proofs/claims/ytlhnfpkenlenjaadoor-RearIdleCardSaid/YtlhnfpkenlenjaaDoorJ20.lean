/- Joined from: DEnt RIdle. -/
import Derived.Test.YtlhnfpkenlenjaaDoorJ15
import Derived.Test.YtlhnfpkenlenjaaDoorJ19
section

/- What a plan's bytes tell of its entries' flags; entries as cells. No walk. -/
namespace Go.Proofs.YtlhnfpkenlenjaaDoor
open Go.RowKit Go.Lib

theorem entPB_flags (k : Nat) (e : Int × Int × Int × Int) (Z : List UInt8) : num (entPB k e ++ Z) 2 2 = m16 e.2.1 := by
  unfold entPB
  rw [List.append_assoc, List.append_assoc, List.append_assoc, numR _ _ 2 0 2 (by rw [beN_length]), numB2 _ _ (m16_lt _)]
theorem entsPB_flags (k : Nat) (hk : k ≤ 2) : ∀ (l : List (Int × Int × Int × Int)) (j : Nat) (e : Int × Int × Int × Int), l[j]? = some e → num (entsPB k l) (j * (4 + 2 * k) + 2) 2 = m16 e.2.1 := by
  intro l
  induction l with
  | nil => intro j e h; simp at h
  | cons x l ih =>
    intro j e h
    rw [show entsPB k (x :: l) = entPB k x ++ entsPB k l from rfl]
    match j, h with
    | 0, h =>
      simp at h
      subst h
      rw [Nat.zero_mul, Nat.zero_add, entPB_flags]
    | j + 1, h =>
      have e1 : (j + 1) * (4 + 2 * k) = j * (4 + 2 * k) + (4 + 2 * k) := Nat.succ_mul j _
      rw [numR _ _ _ (j * (4 + 2 * k) + 2) _ (by rw [entPB_length _ _ hk]; omega)]
      exact ih j e (by simpa using h)
theorem plan_ents (p : PlanL) (k room : Nat) (h : 22 + room + 2 * p.cls.length + 2 * (p.rows.length * p.n) ≤ 65535) : num (planB p k room) 12 4 = 22 + room + 2 * p.cls.length + 2 * (p.rows.length * p.n) := by
  simp only [planB, List.append_assoc]
  rw [numR _ _ 12 8 4 (by rw [beN_length]), numR _ _ 8 4 4 (by rw [beN_length]), numR _ _ 4 0 4 (by rw [beN_length]), numB4 _ _ (by omega)]
  omega
theorem plan_flags (p : PlanL) (h : 22 + 2 * p.cls.length + 2 * (p.rows.length * p.n) ≤ 65535) (j : Nat) (e : Int × Int × Int × Int) (he : p.ents[j]? = some e) : num ((planB p 0 0).drop (num (planB p 0 0) 12 4)) (j * 4 + 2) 2 = m16 e.2.1 := by
  rw [plan_ents p 0 0 (by omega), num_dropS]
  unfold planB
  rw [numR _ _ _ (j * 4 + 2) _ (by simp only [ofB, List.length_append, beN_length, List.length_replicate, clsB_length, rowsPB_length]; omega)]
  exact entsPB_flags 0 (by omega) p.ents j e he
theorem entC4_len : ∀ l : List (Int × Int × Int × Int), (l.flatMap entC4).length = l.length * 4
  | [] => rfl
  | x :: l => by rw [List.flatMap_cons, List.length_append, entC4_len l, List.length_cons]; simp [entC4]; omega
theorem entC4_one (l : List (Int × Int × Int × Int)) : ∀ u ∈ l.flatMap entC4, u.oneCell' = true := by
  intro u hu
  obtain ⟨e, _, he⟩ := List.mem_flatMap.1 hu
  simp only [entC4, List.mem_cons, List.not_mem_nil, or_false] at he
  rcases he with rfl | rfl | rfl | rfl <;> rfl
theorem entC4_flag : ∀ (l : List (Int × Int × Int × Int)) (j : Nat) (e : Int × Int × Int × Int), l[j]? = some e → (l.flatMap entC4)[j * 4 + 1]? = some (.int .i64 e.2.1)
  | [], j, e, h => by simp at h
  | x :: l, 0, e, h => by simp at h; subst h; rfl
  | x :: l, j + 1, e, h => by
    rw [List.flatMap_cons, show (j + 1) * 4 + 1 = (entC4 x).length + (j * 4 + 1) by simp [entC4]; omega, List.getElem?_append_right (by omega), Nat.add_sub_cancel_left]
    exact entC4_flag l j e (by simpa using h)
theorem entC4_set : ∀ (l : List (Int × Int × Int × Int)) (j : Nat) (z : Int) (e : Int × Int × Int × Int), l[j]? = some e → (l.flatMap entC4).set (j * 4 + 1) (.int .i64 z) = (l.set j (e.1, z, e.2.2.1, e.2.2.2)).flatMap entC4
  | [], j, z, e, h => by simp at h
  | x :: l, 0, z, e, h => by simp at h; subst h; rfl
  | x :: l, j + 1, z, e, h => by
    rw [List.flatMap_cons, show (j + 1) * 4 + 1 = (entC4 x).length + (j * 4 + 1) by simp [entC4]; omega, List.set_append_right _ _ (by omega), Nat.add_sub_cancel_left, entC4_set l j z e (by simpa using h), List.set_cons_succ, List.flatMap_cons]
end Go.Proofs.YtlhnfpkenlenjaaDoor
end
section

/- A subtable whose entries have no verbs, or no row: the line stays. Flags that are taken away, and what a plan's bytes tell of them. No walk. -/
namespace Go.Proofs.YtlhnfpkenlenjaaDoor
open Go.RowKit Go.Lib

/-- What stays at each step that a machine can take stays. -/
theorem runD_holds {X : Type} (P : X → Prop) (S C : Nat) {cl : X → Nat → Nat} {en : Nat → Nat → Ent} {fin : X → Nat → Bool} {act : X → Nat → Ent → X × Int × Int} (hC : ∀ x z, cl x z < C) (hE : ∀ s c, s < S → c < C → (en s c).1 < S) (hs : ∀ x z s c, P x → s < S → c < C → P (act x z (en s c)).1) : ∀ fu x now z re st, now < S → P x → P (runD cl en fin act fu x now z re st).1 := by
  intro fu
  induction fu with
  | zero => intro x now z re st _ h; exact h
  | succ fu ih =>
    intro x now z re st hn h
    unfold runD
    dsimp only
    have h1 := hs x z now (cl x z) h hn (hC x z)
    have h2 := hE now (cl x z) hn (hC x z)
    split
    · split
      · exact h1
      · exact ih _ _ _ _ _ h2 h1
    · split
      · exact h1
      · exact ih _ _ _ _ _ h2 h1
/-- Without verbs, or without a row's end. -/
def Idles (which : Bool) (F : Nat) : Prop := if which then F % 16 = 0 else F / 8192 % 2 = 0
theorem rearD_idle {bs : List UInt8} {rs : List RP} {S : Nat} (which : Bool) (hok : MOk bs 40 0 rs S) (hS : 0 < S) (hF : ∀ j, j < needE bs S → Idles which (num (bs.drop (num bs 12 4)) (j * 4 + 2) 2)) (l : List (Int × Int)) : (rearD bs rs l).1.1 = l := by
  have hC4 : 4 ≤ num bs 0 4 := hok.cls.1
  have key : (rearD bs rs l).1.1 = l ∧ (which = false → (rearD bs rs l).1.2.2 = 0) := by
    unfold rearD
    refine runD_holds (fun x : RX => x.1 = l ∧ (which = false → x.2.2 = 0)) S (num bs 0 4) (fun x z => clD_lt _ _ _ _ hC4) (fun s c hs hc => enM_next bs 0 hok hs hc) ?_ _ _ _ _ _ _ hS ⟨rfl, fun _ => rfl⟩
    intro x z s c ⟨hx, h0⟩ hs hc
    have hf := hF _ (ent_in hs hc)
    have hfl : (enM bs 0 s c).2.1 = num (bs.drop (num bs 12 4)) (entN bs (s * num bs 0 4 + c) * 4 + 2) 2 := rfl
    rw [← hfl] at hf
    generalize (enM bs 0 s c) = e at *
    unfold Idles at hf
    cases which with
    | true =>
      rw [if_pos rfl] at hf
      refine ⟨?_, fun h => by cases h⟩
      show lineR x.1 _ _ (e.2.1 % 16) = l
      rw [hf, lineR_idle0]
      exact hx
    | false =>
      rw [if_neg (by decide)] at hf
      have hl : lastR x z e.2.1 = 0 := by
        unfold lastR
        rw [if_neg (by omega)]
        exact h0 rfl
      refine ⟨?_, fun _ => hl⟩
      show lineR x.1 _ (lastR x z e.2.1) _ = l
      rw [hl, lineR_idle1]
      exact hx
  exact key.1
/-- The flags without verbs, or without a row's end. -/
def idleF (which : Bool) (x : Int) : Int := if which then bits .and .i64 x 65520 else bits .andNot .i64 x 8192
theorem idleF_nat (which : Bool) (x : Int) : ∃ v : Nat, v < 18446744073709551616 ∧ Idles which (v % 65536) ∧ idleF which x = IntKind.wrap .i64 (v : Int) := by
  cases which with
  | true =>
    refine ⟨(BitVec.ofInt 64 x).toNat &&& 65520, ?_, ?_, ?_⟩
    · exact Nat.lt_of_le_of_lt Nat.and_le_right (by decide)
    · show _ % 65536 % 16 = 0
      rw [Nat.mod_mod_of_dvd _ (by decide), show (16 : Nat) = 2 ^ 4 from rfl, Nat.and_mod_two_pow]
      simp
    · unfold idleF
      rw [if_pos rfl]
      simp only [bits, BitVec.toNat_and]
      rfl
  | false =>
    refine ⟨(BitVec.ofInt 64 x &&& ~~~ (BitVec.ofInt 64 8192)).toNat, ?_, ?_, ?_⟩
    · exact BitVec.isLt _
    · show _ % 65536 / 8192 % 2 = 0
      have h : (BitVec.ofInt 64 x &&& ~~~ (BitVec.ofInt 64 8192)).toNat.testBit 13 = false := by
        rw [BitVec.testBit_toNat, BitVec.getLsbD_and, BitVec.getLsbD_not]
        have : (BitVec.ofInt 64 8192).getLsbD 13 = true := by decide
        rw [this]
        simp
      rw [Nat.testBit_eq_decide_div_mod_eq, decide_eq_false_iff_not] at h
      omega
    · unfold idleF
      rw [if_neg (by decide)]
      simp only [bits]
      rfl
theorem idleF_wf (which : Bool) (x : Int) : -9223372036854775808 ≤ idleF which x ∧ idleF which x ≤ 9223372036854775807 := by
  obtain ⟨v, hv, _, h⟩ := idleF_nat which x
  rw [h, IntKind.wrap_i64]
  omega
theorem idleF_idles (which : Bool) (x : Int) : Idles which (m16 (idleF which x)) := by
  obtain ⟨v, hv, hb, h⟩ := idleF_nat which x
  have : m16 (idleF which x) = v % 65536 := by
    unfold m16
    rw [h, IntKind.wrap_i64]
    omega
  rw [this]
  exact hb
def idleE (which : Bool) (e : Int × Int × Int × Int) : Int × Int × Int × Int := (e.1, idleF which e.2.1, e.2.2.1, e.2.2.2)
def PlanL.idle (p : PlanL) (which : Bool) : PlanL := ⟨p.cls, p.rows, p.ents.map (idleE which), p.wide⟩
theorem idle_flags (which : Bool) (p : PlanL) (h : 22 + 2 * p.cls.length + 2 * (p.rows.length * p.n) ≤ 65535) (j : Nat) (hj : j < p.ents.length) : Idles which (num ((planB (p.idle which) 0 0).drop (num (planB (p.idle which) 0 0) 12 4)) (j * 4 + 2) 2) := by
  obtain ⟨e, he⟩ : ∃ e, p.ents[j]? = some e := ⟨_, List.getElem?_eq_getElem hj⟩
  rw [plan_flags (p.idle which) h j (idleE which e) (by rw [PlanL.idle, List.getElem?_map, he]; rfl)]
  exact idleF_idles which _
/-- The first j entries are so. -/
def idL (which : Bool) (l : List (Int × Int × Int × Int)) (j : Nat) : List (Int × Int × Int × Int) := (l.take j).map (idleE which) ++ l.drop j
theorem idL_zero (which : Bool) (l : List (Int × Int × Int × Int)) : idL which l 0 = l := by simp [idL]
theorem idL_all (which : Bool) (l : List (Int × Int × Int × Int)) : idL which l l.length = l.map (idleE which) := by simp [idL]
theorem idL_get (which : Bool) (l : List (Int × Int × Int × Int)) (j : Nat) : (idL which l j)[j]? = l[j]? := by
  by_cases h : j ≤ l.length
  · rw [idL, List.getElem?_append_right (by simp [List.length_take]; omega)]
    simp [List.length_take, Nat.min_eq_left h]
  · rw [List.getElem?_eq_none (by simp [idL, List.length_take, List.length_drop]; omega), List.getElem?_eq_none (by omega)]
theorem idL_set (which : Bool) (l : List (Int × Int × Int × Int)) (j : Nat) (e : Int × Int × Int × Int) (h : l[j]? = some e) : (idL which l j).set j (e.1, idleF which e.2.1, e.2.2.1, e.2.2.2) = idL which l (j + 1) := by
  have hlt := (List.getElem?_eq_some_iff.1 h).1
  have hge := (List.getElem?_eq_some_iff.1 h).2
  rw [idL, idL, List.take_add_one, h, List.set_append, if_neg (by simp [List.length_take]; omega)]
  rw [List.drop_eq_getElem_cons hlt, hge]
  simp [List.length_take, Nat.min_eq_left (Nat.le_of_lt hlt), idleE]
theorem idle_wf (which : Bool) (l : List (Int × Int × Int × Int)) (h : ∀ e ∈ l, wfI e.1 ∧ wfI e.2.1 ∧ wfI e.2.2.1 ∧ wfI e.2.2.2) : ∀ e ∈ l.map (idleE which), wfI e.1 ∧ wfI e.2.1 ∧ wfI e.2.2.1 ∧ wfI e.2.2.2 := by
  intro e he
  obtain ⟨x, hx, rfl⟩ := List.mem_map.1 he
  obtain ⟨h1, _, h3, h4⟩ := h x hx
  exact ⟨h1, by have := idleF_wf which x.2.1; unfold wfI idleE; exact this, h3, h4⟩
end Go.Proofs.YtlhnfpkenlenjaaDoor
end
