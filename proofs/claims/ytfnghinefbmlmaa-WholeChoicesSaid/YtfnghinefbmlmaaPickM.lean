
/- Maps of package pick: what their keys and elements read as, and the laws at their operations. Conditions: as each says. -/
import Derived.Test.YtfnghinefbmlmaaPickB
import Derived.Test.YtfnghinefbmlmaaFeatH
import Derived.Maps.OwnOps
import Derived.Maps.OwnSet
import Derived.Maps.RangeWalk
import Derived.DeepKeys4
namespace Go.Proofs.Ytfnghinefbmlmaa
open Go.RowKit Go.Lib

def wfI (n : Int) : Prop := (Lit.int .i64 n).wf = true
def wfS (s : St) : Prop := wfI s.1 ∧ wfI s.2
abbrev kI (n : Int) : Lit := .int .i64 n
def kS (s : St) : Lit := .string (keyBytes [.int .i64 s.1, .int .i64 s.2])
theorem lawI : Maps.Keyed Try.prog 3 := Maps.int_keyed Try.underlying3
theorem lawS : Maps.Keyed Try.prog 44 := Maps.Keyed.of_law (deep_law_laid (m := 2) (by kernel_rfl) (by omega) (of_decide_eq_true (by kernel_rfl)) (by kernel_rfl) (by rw [Try.underlying44]))
theorem keyI {n : Int} (h : wfI n) : keyOf Try.prog 3 (.int .i64 n) = some (kI n) := Maps.keyOf_int_mk Try.underlying3 h
theorem keyS (s : St) (h : wfS s) : keyOf Try.prog 44 (.agg #[.int .i64 s.1, .int .i64 s.2]) = some (kS s) := by
  obtain ⟨m, hm⟩ : ∃ m, Try.prog.types.size = m + 1 := Nat.exists_eq_succ_of_ne_zero (by have : 0 < Try.prog.types.size := of_decide_eq_true (by kernel_rfl); omega)
  have hk : Try.prog.keyType 44 = true := by kernel_rfl
  have hc : Try.prog.cellsOf 44 = 2 := by kernel_rfl
  have hc1 : Try.prog.cellsOf 3 = 1 := by kernel_rfl
  obtain ⟨h1, h2⟩ := h
  unfold wfI at h1 h2
  unfold keyOf
  simp only [Try.underlying44]
  rw [if_pos (by simp [hk, Value.formed, Try.underlying44, hc]), hm]
  unfold Program.keyLits
  simp [Try.underlying44, Value.cells, hc, hc1, Program.keyLits, Try.underlying3, h1, h2, kS]
theorem kS_inj {s t : St} (hs : wfS s) (ht : wfS t) (h : kS s = kS t) : s = t := by
  have := lawS.inj (keyS s hs) (by rw [h]; exact keyS t ht)
  obtain ⟨a, b⟩ := s
  obtain ⟨c, d⟩ := t
  simpa using this
theorem kS_key (s : St) : WideAt.IsKeyLit (kS s) := by unfold kS; trivial
theorem kI_key (n : Int) : WideAt.IsKeyLit (kI n) := by trivial
theorem kI_ne {m n : Int} (h : m ≠ n) : kI m ≠ kI n := fun e => h (by injection e)
def dS (s : St) : DataW Unit := .agg [.lit (.int .i64 s.1), .lit (.int .i64 s.2)]
def setR (v : Value) : Option (DataW Unit × List MemPlace) := match v with
  | .agg xs => (match xs.toList with
    | [.int .i64 a, .int .i64 b] => some (dS (a, b), [])
    | _ => none)
  | _ => none
theorem setR_mk (s : St) : setR (.agg #[.int .i64 s.1, .int .i64 s.2]) = some (dS s, []) := rfl
theorem setR_inv {v : Value} {y : DataW Unit × List MemPlace} (h : setR v = some y) : ∃ s : St, v = .agg #[.int .i64 s.1, .int .i64 s.2] ∧ y = (dS s, []) := by
  unfold setR at h
  split at h
  · rename_i xs
    split at h
    · rename_i a b hx
      cases h
      refine ⟨(a, b), ?_, rfl⟩
      have : xs = #[.int .i64 a, .int .i64 b] := Array.toList_inj.1 hx
      rw [this]
    · cases h
  · cases h
theorem dS_inj {s t : St} (h : dS s = dS t) : s = t := by
  obtain ⟨a, b⟩ := s
  obtain ⟨c, d⟩ := t
  simp only [dS, DataW.agg.injEq, List.cons.injEq, DataW.lit.injEq, Lit.int.injEq] at h
  simp [h.1.2, h.2.1.2]
def boolR (v : Value) : Option (DataW Unit × List MemPlace) := match v with
  | .bool x => some (.lit (.bool x), [])
  | _ => none
theorem boolR_mk (x : Bool) : boolR (.bool x) = some (.lit (.bool x), []) := rfl
theorem boolR_inv {v : Value} {z : DataW Unit × List MemPlace} (h : boolR v = some z) : ∃ x, v = .bool x ∧ z = (.lit (.bool x), []) := by
  unfold boolR at h
  split at h
  · cases h; exact ⟨_, rfl, rfl⟩
  · cases h
theorem zero_bool (w : World) : (zeroValue 4).run Try.prog w = .ok (.bool false) w := by kernel_rfl
theorem wpLookB {w : World} {o : Oper} {a : Act} {K : Act → World → Prop} {Q : Exit → Act → World → Prop} (m x : Operand) (t : TypeId) (hop : o.op = Op.lookup t m x false)
    (ht : Try.prog.underlying t = some (.map 3 4)) (b n : Nat) (D : DataW Unit) (hm : a.eval m = .map (some b)) (hown : w.ownsMap Try.prog 3 boolR b n D)
    (k : Int) (hx : a.eval x = .int .i64 k) (hk : wfI k) (r : Bool) (hr : D.atKey (kI k) (.lit (.bool false)) = .lit (.bool r)) (hK : K (a.put o.dst (.bool r)) w) : o.wp Try.prog a w K Q := by
  obtain ⟨v, ps, hrun, hv⟩ := hown.lookup lawI ht (zero_bool _) (boolR_mk false) (keyI hk)
  obtain ⟨c, rfl, hc⟩ := boolR_inv hv
  have e := (Prod.mk.inj hc).1
  rw [hr] at e
  injection e with e
  injection e with e
  subst e
  unfold Oper.wp
  simp [execOp, hop, hm, hx, hrun, Result.andThen]
  exact hK
theorem wpMapO {P : Program} {w : World} {o : Oper} {a : Act} {K : Act → World → Prop} {Q : Exit → Act → World → Prop} (m x v : Operand) (t : TypeId) (hop : o.op = Op.mapUpdate t m x v)
    (k e : TypeId) (KY : Maps.Keyed P k) (ht : P.underlying t = some (.map k e)) (R : Value → Option (DataW Unit × List MemPlace)) (b n : Nat) (D : DataW Unit)
    (hm : a.eval m = .map (some b)) (hown : w.ownsMap P k R b n D) (hn : n < maxLen) (key val : Value) (kl : Lit) (hx : a.eval x = key) (hv : a.eval v = val) (hkey : keyOf P k key = some kl)
    (d : DataW Unit) (ps : List MemPlace) (hval : R val = some (d, ps)) (hK : ∀ w', w'.ownsMap P k R b (n + 1) (D.put kl d) → w.grownBy w' (some b) → K (a.put o.dst undef) w') : o.wp P a w K Q := by
  obtain ⟨w', hrun, r1, r2⟩ := hown.update KY ht hn hkey hval
  unfold Oper.wp
  simp [execOp, hop, hm, hx, hv, hrun, Result.andThen]
  exact hK _ r1 r2
/-- Which types are exclusive, by features. -/
def exF (fs : List FEnt) (n : Int) : Bool := fs.any (hitF n)
/-- A map of types says this. -/
def SaysI (D : DataW Unit) (ex : Int → Bool) : Prop := Maps.IsMap D ∧ ∀ n, D.atKey (kI n) (.lit (.bool false)) = .lit (.bool (ex n))
theorem says_start : SaysI (.map []) (exF []) := ⟨⟨[], rfl⟩, fun n => rfl⟩
theorem ex_snoc (fs : List FEnt) (f : FEnt) (n : Int) : exF (fs ++ [f]) n = (exF fs n || hitF n f) := by simp [exF]
theorem says_put {D : DataW Unit} {fs : List FEnt} {f : FEnt} (h : SaysI D (exF fs)) (hf : f.ex = true) : SaysI (D.put (kI (f.ty : Nat)) (.lit (.bool true))) (exF (fs ++ [f])) := by
  refine ⟨h.1.put _ _, fun n => ?_⟩
  rw [ex_snoc]
  by_cases hn : (f.ty : Int) = n
  · subst hn
    rw [Maps.atKey_put_same h.1 (kI_key _)]
    simp [hitF, hf]
  · rw [Maps.atKey_put_other (kI_ne (Ne.symm hn)), h.2 n]
    simp [hitF, hn]
theorem says_skip {D : DataW Unit} {fs : List FEnt} {f : FEnt} (h : SaysI D (exF fs)) (hf : f.ex = false) : SaysI D (exF (fs ++ [f])) := by
  refine ⟨h.1, fun n => ?_⟩
  rw [ex_snoc, h.2 n]
  simp [hitF, hf]
/-- What the settings' map says: of each that is shared the last one. -/
def SaysS (D : DataW Unit) (ex : Int → Bool) (l : List St) : Prop :=
  Maps.IsMap D ∧ (∀ kl, Maps.has D kl = true → ∃ k t, kl = kS k ∧ lastS ex l k = some t) ∧ ∀ k t, lastS ex l k = some t → Maps.has D (kS k) = true ∧ ∀ z, D.atKey (kS k) z = dS t
theorem saysS_start (ex : Int → Bool) : SaysS (.map []) ex [] := ⟨⟨[], rfl⟩, fun kl h => by simp [Maps.has] at h, fun k t h => by cases h⟩
theorem wfI_of {n : Int} (h1 : -9223372036854775808 ≤ n) (h2 : n ≤ 9223372036854775807) : wfI n := by unfold wfI; exact WalkArith.wf_i64 (by omega)
theorem wfI_b {n : Int} (h : wfI n) : -9223372036854775808 ≤ n ∧ n ≤ 9223372036854775807 := by
  unfold wfI at h
  simp [Lit.wf, IntKind.min, IntKind.max, IntKind.signed, IntKind.bits] at h
  omega
theorem inW_b {n : Int} (h : inW n = true) : 0 ≤ n ∧ n ≤ 65535 := by
  simp only [inW, Bool.and_eq_true, decide_eq_true_eq] at h
  exact h
theorem right_b {s : St} (h : rightS s = true) : (0 ≤ s.1 ∧ s.1 ≤ 65535) ∧ 0 ≤ s.2 ∧ s.2 ≤ 65535 := by
  simp only [rightS, Bool.and_eq_true] at h
  exact ⟨inW_b h.1, inW_b h.2⟩
theorem share_b {ex : Int → Bool} {s : St} (h : rightS s = true) : (0 ≤ (shareS ex s).1 ∧ (shareS ex s).1 ≤ 65535) ∧ 0 ≤ (shareS ex s).2 ∧ (shareS ex s).2 ≤ 65535 := by
  have := right_b h
  unfold shareS
  split
  · simp only; omega
  · simp only
    have h2 : s.2.tdiv 2 = s.2 / 2 := Int.tdiv_eq_ediv_of_nonneg (by omega)
    rw [h2]; omega
theorem share_wf {ex : Int → Bool} {s : St} (h : rightS s = true) : wfS (shareS ex s) := by
  have := share_b (ex := ex) h
  exact ⟨wfI_of (by omega) (by omega), wfI_of (by omega) (by omega)⟩
theorem saysS_put {D : DataW Unit} {ex : Int → Bool} {l : List St} {s : St} (h : SaysS D ex l) (hr : rightS s = true) : SaysS (D.put (kS (shareS ex s)) (dS s)) ex (l ++ [s]) := by
  obtain ⟨h1, h2, h3⟩ := h
  have key : ∀ k : St, wfS k → k ≠ shareS ex s → kS k ≠ kS (shareS ex s) := fun k hk hne e => hne (kS_inj hk (share_wf hr) e)
  have wfk : ∀ {k t : St} {l : List St}, lastS ex l k = some t → wfS k := fun {k t l} h => by
    obtain ⟨_, g2, g3⟩ := last_some h
    rw [← g3]; exact share_wf g2
  refine ⟨h1.put _ _, fun kl hk => ?_, fun k t hk => ?_⟩
  · by_cases e : kl = kS (shareS ex s)
    · exact ⟨shareS ex s, s, e, by rw [last_snoc, hr]; simp⟩
    · rw [Maps.has_put_other e] at hk
      obtain ⟨k, t, rfl, g⟩ := h2 kl hk
      refine ⟨k, t, rfl, ?_⟩
      rw [last_snoc, if_neg ?_]
      · exact g
      · simp only [Bool.and_eq_true, beq_iff_eq, not_and]
        rintro _ rfl
        exact e rfl
  · rw [last_snoc] at hk
    split at hk
    · rename_i hc
      simp only [Bool.and_eq_true, beq_iff_eq] at hc
      cases hk
      obtain ⟨_, rfl⟩ := hc
      exact ⟨Maps.has_put_same h1 (kS_key _) _, fun z => Maps.atKey_put_same h1 (kS_key _) _ _⟩
    · rename_i hc
      have hne : k ≠ shareS ex s := by rintro rfl; simp [hr] at hc
      obtain ⟨g1, g2⟩ := h3 k t hk
      have := key k (wfk hk) hne
      exact ⟨by rw [Maps.has_put_other this]; exact g1, fun z => by rw [Maps.atKey_put_other this]; exact g2 z⟩
theorem saysS_skip {D : DataW Unit} {ex : Int → Bool} {l : List St} {s : St} (h : SaysS D ex l) (hr : rightS s = false) : SaysS D ex (l ++ [s]) := by
  obtain ⟨h1, h2, h3⟩ := h
  have e : ∀ k, lastS ex (l ++ [s]) k = lastS ex l k := fun k => by rw [last_snoc, hr]; simp
  exact ⟨h1, fun kl hk => by obtain ⟨k, t, g1, g2⟩ := h2 kl hk; exact ⟨k, t, g1, by rw [e]; exact g2⟩, fun k t hk => h3 k t (by rw [← e]; exact hk)⟩
end Go.Proofs.Ytfnghinefbmlmaa
