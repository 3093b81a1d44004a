
/- What the bytes say that the statement's Write makes of features. Conditions: no more than thirty, of no more than sixty settings each; numbers of two bytes. -/
import Derived.Test.YtfnghinefbmlmaaFeatW
import Derived.Test.YtfnghinefbmlmaaFeatE
namespace Go.Proofs.Ytfnghinefbmlmaa
open Go.RowKit Go.Lib

theorem numR (X Y : List UInt8) (m k s : Nat) (h : m = X.length + k) : num (X ++ Y) m s = num Y k s := by
  rw [h, ← num_dropS, List.drop_left]
theorem numL (X Y : List UInt8) (k s : Nat) (h : k + s ≤ X.length) : num (X ++ Y) k s = num X k s := by
  have := num_takeS (X ++ Y) X.length k s h
  rw [List.take_left] at this
  exact this.symm
theorem numB2 (z : Nat) (Z : List UInt8) (h : z ≤ 65535) : num (beN 2 z ++ Z) 0 2 = z := by
  rw [numL _ _ _ _ (by simp [beN_length])]
  simp [beN, num2, UInt8.toNat_ofNat']
  omega
theorem numB4 (z : Nat) (Z : List UInt8) (h : z ≤ 65536) : num (beN 4 z ++ Z) 0 4 = z := by
  rw [numL _ _ _ _ (by simp [beN_length])]
  simp [beN, num4, UInt8.toNat_ofNat']
  omega
structure PlB (ps : List PlanF) : Prop where
  few : ps.length ≤ 30
  each : ∀ p ∈ ps, p.ty ≤ 65535 ∧ p.fl ≤ 65535 ∧ p.ss.length ≤ 60 ∧ ∀ s ∈ p.ss, s ≤ 65535
theorem headF_length (n : Nat) : (headF n).length = 12 := by simp [headF, beN_length]
theorem writeF_length (ps : List PlanF) : (writeF ps).length = 12 + 12 * ps.length + (setsF ps).length := by
  unfold writeF
  rw [List.length_append, List.length_append, headF_length, rowsW_length]
theorem writeF_ver (ps : List PlanF) : num (writeF ps) 0 4 = 65536 := by
  unfold writeF headF
  simp only [List.append_assoc]
  exact numB4 _ _ (by omega)
theorem writeF_n (ps : List PlanF) (h : ps.length ≤ 65535) : num (writeF ps) 4 2 = ps.length := by
  unfold writeF headF
  simp only [List.append_assoc]
  rw [numR _ _ 4 0 2 (by rw [beN_length])]
  exact numB2 _ _ h
theorem rowsW_split (n : Nat) (p : PlanF) (r : List PlanF) : ∀ (l : List PlanF) (o : Nat), rowsW n o (l ++ p :: r) = rowsW n o l ++ (rowBy n (o + (setsF l).length) p ++ rowsW n (o + (setsF l).length + 4 * p.ss.length) r)
  | [], o => by simp [rowsW, setsF]
  | q :: l, o => by rw [List.cons_append, rowsW, rowsW_split n p r l, rowsW, setsF_cons, List.length_append, setBy_length, List.append_assoc, Nat.add_assoc o]
theorem split_at {ps : List PlanF} {i : Nat} {p : PlanF} (h : ps[i]? = some p) : ps = ps.take i ++ p :: ps.drop (i + 1) := by
  obtain ⟨hj, rfl⟩ := List.getElem?_eq_some_iff.1 h
  rw [← List.drop_eq_getElem_cons hj]
  exact (List.take_append_drop i ps).symm
def offF (ps : List PlanF) (i : Nat) : Nat := (setsF (ps.take i)).length
theorem row_num {ps : List PlanF} {i : Nat} {p : PlanF} (h : ps[i]? = some p) (k s : Nat) (hk : k + s ≤ 12) : num (writeF ps) (12 + 12 * i + k) s = num (rowBy ps.length (offF ps i) p) k s := by
  have hi := (List.getElem?_eq_some_iff.1 h).1
  have e := rowsW_split ps.length p (ps.drop (i + 1)) (ps.take i) 0
  rw [← split_at h] at e
  unfold writeF
  rw [e, Nat.zero_add, List.append_assoc, List.append_assoc, numR _ _ _ (12 * i + k) _ (by rw [headF_length]; omega), numR _ _ _ k _ (by rw [rowsW_length, List.length_take]; omega), List.append_assoc, numL _ _ _ _ (by rw [rowBy_length]; exact hk)]
  rfl
theorem offF_le {ps : List PlanF} (hb : PlB ps) (i : Nat) : offF ps i ≤ 7200 := by
  have := setsF_le (ps.take i) (fun p hp => (hb.each p (List.mem_of_mem_take hp)).2.2.1)
  have h2 := hb.few
  have h3 : (ps.take i).length ≤ ps.length := by rw [List.length_take]; omega
  unfold offF
  omega
theorem w_ty {ps : List PlanF} (hb : PlB ps) {i : Nat} {p : PlanF} (h : ps[i]? = some p) : fTy (writeF ps) i = p.ty := by
  have := row_num h 0 2 (by omega)
  unfold fTy
  rw [Nat.add_zero] at this
  rw [this]
  unfold rowBy
  simp only [List.append_assoc]
  exact numB2 _ _ (hb.each p (List.mem_of_getElem? h)).1
theorem w_many {ps : List PlanF} (hb : PlB ps) {i : Nat} {p : PlanF} (h : ps[i]? = some p) : fMany (writeF ps) i = p.ss.length := by
  have := row_num h 2 2 (by omega)
  unfold fMany
  rw [show 14 + 12 * i = 12 + 12 * i + 2 by omega, this]
  unfold rowBy
  simp only [List.append_assoc]
  rw [numR _ _ 2 0 2 (by rw [beN_length])]
  exact numB2 _ _ (by have := (hb.each p (List.mem_of_getElem? h)).2.2.1; omega)
theorem w_from {ps : List PlanF} (hb : PlB ps) {i : Nat} {p : PlanF} (h : ps[i]? = some p) : fFrom (writeF ps) i = 12 + 12 * ps.length + offF ps i := by
  have := row_num h 4 4 (by omega)
  unfold fFrom
  rw [show 16 + 12 * i = 12 + 12 * i + 4 by omega, this]
  unfold rowBy
  simp only [List.append_assoc]
  rw [numR _ _ 4 2 4 (by rw [beN_length]), numR _ _ 2 0 4 (by rw [beN_length])]
  exact numB4 _ _ (by have := offF_le hb i; have := hb.few; omega)
theorem w_fl {ps : List PlanF} (hb : PlB ps) {i : Nat} {p : PlanF} (h : ps[i]? = some p) : fFl (writeF ps) i = p.fl := by
  have := row_num h 8 2 (by omega)
  unfold fFl
  rw [show 20 + 12 * i = 12 + 12 * i + 8 by omega, this]
  unfold rowBy
  simp only [List.append_assoc]
  rw [numR _ _ 8 6 2 (by rw [beN_length]), numR _ _ 6 4 2 (by rw [beN_length]), numR _ _ 4 0 2 (by rw [beN_length])]
  exact numB2 _ _ (hb.each p (List.mem_of_getElem? h)).2.1
theorem sets_split {ps : List PlanF} {i : Nat} {p : PlanF} (h : ps[i]? = some p) : setsF ps = setsF (ps.take i) ++ (setBy p.ss ++ setsF (ps.drop (i + 1))) := by
  have e : setsF ps = setsF (ps.take i ++ p :: ps.drop (i + 1)) := congrArg setsF (split_at h)
  rw [e]
  simp [setsF]
theorem w_sb {ps : List PlanF} (hb : PlB ps) {i : Nat} {p : PlanF} (h : ps[i]? = some p) : fSb (writeF ps) i = setBy p.ss := by
  unfold fSb
  rw [w_from hb h, w_many hb h]
  unfold writeF
  have e : 12 + 12 * ps.length + offF ps i = (headF ps.length ++ rowsW ps.length 0 ps ++ setsF (ps.take i)).length := by
    rw [List.length_append, List.length_append, headF_length, rowsW_length]
    rfl
  rw [e, sets_split h, ← List.append_assoc, List.drop_left, ← setBy_length, List.take_left]
theorem setBy_num : ∀ (ss : List Nat) (j s : Nat), ss[j]? = some s → s ≤ 65535 → num (setBy ss) (4 * j) 2 = s
  | [], j, s, h, _ => by simp at h
  | x :: ss, 0, s, h, hs => by
    simp at h
    subst h
    show num (beN 2 x ++ beN 2 9 ++ setBy ss) 0 2 = x
    rw [List.append_assoc]
    exact numB2 _ _ hs
  | x :: ss, j + 1, s, h, hs => by
    show num (beN 2 x ++ beN 2 9 ++ setBy ss) (4 * (j + 1)) 2 = s
    rw [numR _ _ (4 * (j + 1)) (4 * j) 2 (by simp [beN_length]; omega)]
    exact setBy_num ss j s (by simpa using h) hs
def RiseF (ps : List PlanF) : Prop := ∀ i p q, ps[i]? = some p → ps[i + 1]? = some q → p.ty < q.ty
theorem write_ok {ps : List PlanF} (hb : PlB ps) : FtOk (writeF ps) ↔ RiseF ps := by
  have hn : num (writeF ps) 4 2 = ps.length := writeF_n ps (by have := hb.few; omega)
  constructor
  · intro h i p q hp hq
    have := h.rise i (by rw [hn]; exact (List.getElem?_eq_some_iff.1 hq).1)
    rwa [w_ty hb hp, w_ty hb hq] at this
  · intro h
    refine ⟨by rw [writeF_length]; omega, writeF_ver ps, by rw [hn, writeF_length]; omega, fun i hi => ?_, fun i hi => ?_⟩
    · rw [hn] at hi
      have hp := List.getElem?_eq_getElem (show i < ps.length by omega)
      have hq := List.getElem?_eq_getElem hi
      rw [w_ty hb hp, w_ty hb hq]
      exact h i _ _ hp hq
    · rw [hn] at hi
      have hp := List.getElem?_eq_getElem hi
      have e := congrArg List.length (sets_split hp)
      simp only [List.length_append, setBy_length] at e
      unfold setsOk
      rw [w_from hb hp, w_many hb hp, writeF_length]
      unfold offF
      omega
end Go.Proofs.Ytfnghinefbmlmaa
