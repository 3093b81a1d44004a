/- Joined from: MPlan. -/
import Derived.ChangeSame
import Derived.Test.YtlhnfpkenlenjaaDoorJ14
import Derived.Test.YtlhnfpkenlenjaaDoorJ02
section

/- What an argument that is a plan is; the contract of small; numbers of a plan's bytes. Conditions: as each says. -/
namespace Go.Proofs.YtlhnfpkenlenjaaDoor
section
open Go.ChangeShapes Go.WideShapes Go.ChangeAt Go.RowKit
variable {H : Type} {enc : TypeId × Value → H}
theorem open_bytesC {P : Program} {W : World} {t e : TypeId} {f : Nat} {v : Value} {y : DataW H × List MemPlace} (ht : P.underlying t = some (.slice e)) (he : P.underlying e = some (.int .u8))
    (h : DataW.trod enc P W 0 (fun _ => true) true f t [v] = some y) : ∃ (a : Option Addr) (c : Nat) (bs : List UInt8), v = .slice a bs.length c ∧ Has W a (bytesV bs) := by
  obtain ⟨a, n, c, us, rfl, hl, _, _, _, hh, hx⟩ := open_rows_cell ht h
  have key : ∀ us : List (List Value), (∀ x ∈ us, ∃ m y, DataW.trod enc P W 0 (fun _ => true) true m e x = some y) → ∃ bs : List UInt8, bs.length = us.length ∧ us.flatten = bytesV bs := by
    intro us
    induction us with
    | nil => exact fun _ => ⟨[], rfl, rfl⟩
    | cons x us ih =>
      intro h
      obtain ⟨bs, h1, h2⟩ := ih (fun y hy => h y (by simp [hy]))
      obtain ⟨m, y, hy⟩ := h x (by simp)
      obtain ⟨z, rfl, _, hw⟩ := DataW.trod_int he hy
      obtain ⟨k, rfl, hk⟩ := wf_u8 hw
      refine ⟨UInt8.ofNat k :: bs, by simp [h1], ?_⟩
      have e1 : (UInt8.ofNat k).toNat = k := by simp; omega
      simp [h2, bytesV, e1]
  obtain ⟨bs, h1, h2⟩ := key us (fun x hx' => (hx x hx').2)
  exact ⟨a, c, bs, by rw [h1, hl], h2 ▸ hh⟩
theorem open_rowsC {P : Program} {W : World} {t e u : TypeId} {f : Nat} {v : Value} {y : DataW H × List MemPlace} (ht : P.underlying t = some (.slice e)) (he : P.underlying e = some (.slice u)) (hu : P.underlying u = some (.int .u8)) (hc : P.cellsOf e = 1)
    (h : DataW.trod enc P W 0 (fun _ => true) true f t [v] = some y) : ∃ (a : Option Addr) (c : Nat) (l : List (List UInt8)) (rv : List Value), v = .slice a l.length c ∧ Has W a rv ∧ rv.length = l.length ∧
      ∀ (i : Nat) (r : List UInt8), l[i]? = some r → ∃ (ai : Option Addr) (ci : Nat), rv[i]? = some (Value.slice ai r.length ci) ∧ Has W ai (bytesV r) := by
  obtain ⟨a, n, c, us, rfl, hl, _, _, _, hh, hx⟩ := open_rows_cell ht h
  have key : ∀ us : List (List Value), (∀ x ∈ us, x.length = P.cellsOf e ∧ ∃ m y, DataW.trod enc P W 0 (fun _ => true) true m e x = some y) → ∃ l : List (List UInt8), l.length = us.length ∧ us.flatten.length = l.length ∧
      ∀ (i : Nat) (r : List UInt8), l[i]? = some r → ∃ (ai : Option Addr) (ci : Nat), us.flatten[i]? = some (Value.slice ai r.length ci) ∧ Has W ai (bytesV r) := by
    intro us
    induction us with
    | nil => exact fun _ => ⟨[], rfl, rfl, fun i r hr => by simp at hr⟩
    | cons x us ih =>
      intro h
      obtain ⟨l, h1, h2, h3⟩ := ih (fun y hy => h y (by simp [hy]))
      obtain ⟨hlx, m, y, hy⟩ := h x (by simp)
      rw [hc] at hlx
      obtain ⟨x0, rfl⟩ : ∃ x0, x = [x0] := by
        match x, hlx with
        | [x0], _ => exact ⟨x0, rfl⟩
      obtain ⟨ai, ci, bs, rfl, hb⟩ := open_bytesC he hu hy
      refine ⟨bs :: l, by simp [h1], by simpa using h2, fun i r hr => ?_⟩
      match i with
      | 0 =>
        simp at hr
        subst hr
        exact ⟨ai, ci, by simp, hb⟩
      | i + 1 =>
        obtain ⟨aj, cj, q1, q2⟩ := h3 i r (by simpa using hr)
        exact ⟨aj, cj, by simpa using q1, q2⟩
  obtain ⟨l, h1, h2, h3⟩ := key us hx
  exact ⟨a, c, l, us.flatten, by rw [h1, hl], hh, h2, h3⟩
theorem open_entsC {P : Program} {W : World} {t e : TypeId} {f0 f1 f2 f3 : Field} {f : Nat} {v : Value} {y : DataW H × List MemPlace} (ht : P.underlying t = some (.slice e)) (he : P.underlying e = some (.struct #[f0, f1, f2, f3]))
    (h0 : P.underlying f0.type = some (.int .i64)) (h1 : P.underlying f1.type = some (.int .i64)) (h2 : P.underlying f2.type = some (.int .i64)) (h3 : P.underlying f3.type = some (.int .i64)) (o0 : f0.offset = 0) (o1 : f1.offset = 1) (o2 : f2.offset = 2) (o3 : f3.offset = 3)
    (c0 : P.cellsOf f0.type = 1) (c1 : P.cellsOf f1.type = 1) (c2 : P.cellsOf f2.type = 1) (c3 : P.cellsOf f3.type = 1) (ce : P.cellsOf e = 4)
    (h : DataW.trod enc P W 0 (fun _ => true) true f t [v] = some y) : ∃ (a : Option Addr) (c : Nat) (l : List (Int × Int × Int × Int)), v = .slice a l.length c ∧ Has W a (l.flatMap entC4) ∧ (a = none → c = 0) ∧ ∀ e ∈ l, wfI e.1 ∧ wfI e.2.1 ∧ wfI e.2.2.1 ∧ wfI e.2.2.2 := by
  obtain ⟨a, n, c, us, rfl, hl, _, _, hA, hh, hx⟩ := open_rows_cell ht h
  have key : ∀ us : List (List Value), (∀ x ∈ us, x.length = P.cellsOf e ∧ ∃ m y, DataW.trod enc P W 0 (fun _ => true) true m e x = some y) → ∃ l : List (Int × Int × Int × Int), l.length = us.length ∧ us.flatten = l.flatMap entC4 ∧ ∀ e ∈ l, wfI e.1 ∧ wfI e.2.1 ∧ wfI e.2.2.1 ∧ wfI e.2.2.2 := by
    intro us
    induction us with
    | nil => exact fun _ => ⟨[], rfl, rfl, fun z hz => by cases hz⟩
    | cons x us ih =>
      intro h
      obtain ⟨zs, q1, q2, q3⟩ := ih (fun y hy => h y (by simp [hy]))
      obtain ⟨hlx, m, y, hy⟩ := h x (by simp)
      obtain ⟨y0, y1, y2, y3, k, _, _, t0, t1, t2, t3⟩ := Go.Joins.trod_struct4 he hy
      rw [o0, c0] at t0
      rw [o1, c1] at t1
      rw [o2, c2] at t2
      rw [o3, c3] at t3
      obtain ⟨z0, e0, _, w0⟩ := DataW.trod_int h0 t0
      obtain ⟨z1, e1, _, w1⟩ := DataW.trod_int h1 t1
      obtain ⟨z2, e2, _, w2⟩ := DataW.trod_int h2 t2
      obtain ⟨z3, e3, _, w3⟩ := DataW.trod_int h3 t3
      rw [ce] at hlx
      have hxe : x = entC4 (z0, z1, z2, z3) := by
        match x, hlx with
        | [x0, x1, x2, x3], _ =>
          simp at e0 e1 e2 e3
          rw [e0, e1, e2, e3]
          rfl
      exact ⟨(z0, z1, z2, z3) :: zs, by simp [q1], by rw [List.flatten_cons, hxe, q2]; rfl, fun z hz => by
        rcases List.mem_cons.1 hz with rfl | hz
        · exact ⟨wf_i64 w0, wf_i64 w1, wf_i64 w2, wf_i64 w3⟩
        · exact q3 z hz⟩
  obtain ⟨l, q1, q2, q3⟩ := key us hx
  exact ⟨a, c, l, by rw [q1, hl], q2 ▸ hh, hA, q3⟩
set_option maxRecDepth 100000 in
theorem open_plan0 {W : World} {base : Nat} {v : Value} {d : DataW H} {pl : List MemPlace} (hv : Value.okWide Tryd.prog W .any base 26 v) (h : DataW.Trod enc Tryd.prog W 0 (fun _ => true) true 26 v d pl) :
    ∃ (p : PlanL) (aC aR aE : Option Addr) (rv : List Value) (cC cR cE : Nat), v = .agg #[.slice aC p.cls.length cC, .slice aR p.rows.length cR, .slice aE p.ents.length cE, .int .u8 (p.wide.toNat : Nat)] ∧ PlanHas W p aC aR rv aE ∧ (∀ e ∈ p.ents, wfI e.1 ∧ wfI e.2.1 ∧ wfI e.2.2.1 ∧ wfI e.2.2.2) ∧ (aE = none → cE = 0) := by
  obtain ⟨v0, v1, v2, v3, y0, y1, y2, y3, n, rfl, _, _, h0, h1, h2, h3⟩ := Go.Joins.open_agg4 Tryd.underlying26 (by kernel_rfl) (by kernel_rfl) hv h
  obtain ⟨aC, cC, bs, rfl, hC⟩ := open_bytesC Tryd.underlying22 Tryd.underlying5 h0
  obtain ⟨aR, cR, l, rv, rfl, hR, hRl, hRr⟩ := open_rowsC Tryd.underlying23 Tryd.underlying22 Tryd.underlying5 (by kernel_rfl) h1
  obtain ⟨aE, cE, es, rfl, hE, hE0, hEw⟩ := open_entsC Tryd.underlying24 Tryd.underlying55 Tryd.underlying3 Tryd.underlying3 Tryd.underlying3 Tryd.underlying3 rfl rfl rfl rfl (by kernel_rfl) (by kernel_rfl) (by kernel_rfl) (by kernel_rfl) (by kernel_rfl) h2
  obtain ⟨z, e0, _, hw⟩ := DataW.trod_int Tryd.underlying5 h3
  obtain ⟨k, rfl, hk⟩ := wf_u8 hw
  injection e0 with e0
  subst e0
  have e1 : ((UInt8.ofNat k).toNat : Int) = k := by simp; omega
  refine ⟨⟨bs, l, es, UInt8.ofNat k⟩, aC, aR, aE, rv, cC, cR, cE, ?_, ⟨hC, hR, hRl, hRr, hE⟩, hEw, hE0⟩
  rw [e1]
set_option maxRecDepth 100000 in
theorem open_plan {W : World} {base : Nat} {v : Value} {d : DataW H} {pl : List MemPlace} (hv : Value.okWide Tryd.prog W .any base 26 v) (h : DataW.Trod enc Tryd.prog W 0 (fun _ => true) true 26 v d pl) :
    ∃ (p : PlanL) (aC aR aE : Option Addr) (rv : List Value) (cC cR cE : Nat), v = .agg #[.slice aC p.cls.length cC, .slice aR p.rows.length cR, .slice aE p.ents.length cE, .int .u8 (p.wide.toNat : Nat)] ∧ PlanHas W p aC aR rv aE ∧ ∀ e ∈ p.ents, wfI e.1 ∧ wfI e.2.1 ∧ wfI e.2.2.1 ∧ wfI e.2.2.2 := by
  obtain ⟨p, aC, aR, aE, rv, cC, cR, cE, h1, h2, h3, _⟩ := open_plan0 hv h
  exact ⟨p, aC, aR, aE, rv, cC, cR, cE, h1, h2, h3⟩
end

open Go.RowKit Go.Lib
theorem planB_length (p : PlanL) (k room : Nat) (hk : k ≤ 2) : (planB p k room).length = 22 + room + 2 * p.cls.length + 2 * (p.rows.length * p.n) + p.ents.length * (4 + 2 * k) := by
  simp only [planB, ofB, List.length_append, beN_length, List.length_replicate, clsB_length, rowsPB_length, entsPB_length _ _ hk]
  omega
theorem numR (X Y : List UInt8) (m k s : Nat) (h : m = X.length + k) : num (X ++ Y) m s = num Y k s := by
  rw [h, ← num_dropS, List.drop_left]
theorem numL (X Y : List UInt8) (k s : Nat) (h : k + s ≤ X.length) : num (X ++ Y) k s = num X k s := by
  have := num_takeS (X ++ Y) X.length k s h
  rw [List.take_left] at this
  exact this.symm
theorem numB2 (z : Nat) (Z : List UInt8) (h : z ≤ 65535) : num (beN 2 z ++ Z) 0 2 = z := by
  rw [numL _ _ _ _ (by simp [beN_length])]
  simp [beN, num2, UInt8.toNat_ofNat']
  omega
theorem numB4 (z : Nat) (Z : List UInt8) (h : z ≤ 65535) : num (beN 4 z ++ Z) 0 4 = z := by
  rw [numL _ _ _ _ (by simp [beN_length])]
  simp [beN, num4, UInt8.toNat_ofNat']
  omega
theorem plan_cls (p : PlanL) (k room : Nat) : num (planB p k room) 0 4 = p.n := by
  simp only [planB, List.append_assoc]
  exact numB4 _ _ (by unfold PlanL.n; omega)
theorem plan_rows (p : PlanL) (k room : Nat) (h : 22 + room + 2 * p.cls.length ≤ 65535) : num (planB p k room) 8 4 = 22 + room + 2 * p.cls.length := by
  simp only [planB, List.append_assoc]
  rw [numR _ _ 8 4 4 (by rw [beN_length]), numR _ _ 4 0 4 (by rw [beN_length]), numB4 _ _ (by omega)]
  omega
theorem rowPB_num (r : List UInt8) : ∀ n c, c < n → num (rowPB r n) (2 * c) 2 = (r.getD c 0).toNat := by
  intro n
  induction n with
  | zero => intro c h; omega
  | succ n ih =>
    intro c h
    rw [rowPB_succ]
    by_cases hc : c < n
    · rw [numL _ _ _ _ (by rw [rowPB_length]; omega), ih c hc]
    · obtain rfl : c = n := by omega
      rw [numR _ _ _ 0 _ (by rw [rowPB_length]; omega)]
      have := numB2 (r.getD c 0).toNat [] (by have := byte_le (r.getD c 0); omega)
      rwa [List.append_nil] at this
theorem rowsPB_num (n : Nat) : ∀ (l : List (List UInt8)) (s c : Nat) (r : List UInt8), l[s]? = some r → c < n → num (rowsPB l n) (2 * (s * n + c)) 2 = (r.getD c 0).toNat := by
  intro l
  induction l with
  | nil => intro s c r h; simp at h
  | cons x l ih =>
    intro s c r h hc
    rw [show rowsPB (x :: l) n = rowPB x n ++ rowsPB l n from rfl]
    match s, h with
    | 0, h =>
      simp at h
      subst h
      rw [Nat.zero_mul, Nat.zero_add, numL _ _ _ _ (by rw [rowPB_length]; omega), rowPB_num x n c hc]
    | s + 1, h =>
      have e : (s + 1) * n = s * n + n := Nat.succ_mul s n
      rw [numR _ _ _ (2 * (s * n + c)) _ (by rw [rowPB_length]; omega)]
      exact ih s c r (by simpa using h) hc
theorem plan_ent (p : PlanL) (k room : Nat) (h : 22 + room + 2 * p.cls.length ≤ 65535) (s c : Nat) (r : List UInt8) (hr : p.rows[s]? = some r) (hc : c < p.n) : entN (planB p k room) (s * p.n + c) = (r.getD c 0).toNat := by
  unfold entN
  rw [plan_rows p k room h]
  have hs : s < p.rows.length := (List.getElem?_eq_some_iff.1 hr).1
  have hm : (s + 1) * p.n ≤ p.rows.length * p.n := Nat.mul_le_mul_right _ hs
  rw [Nat.succ_mul] at hm
  unfold planB
  rw [List.append_assoc, numR _ _ _ (2 * (s * p.n + c)) _ (by simp only [ofB, List.length_append, beN_length, List.length_replicate, clsB_length]; omega), numL _ _ _ _ (by rw [rowsPB_length]; omega)]
  exact rowsPB_num p.n p.rows s c r hr hc
/-- As few states as that takes. -/
theorem MLeast.is_max {bs : List UInt8} {k S : Nat} (h : MLeast bs k S) : S = max 2 (needS bs k (needE bs S)) := by
  have hc := h.closed
  unfold MClosed at hc
  have hle : max 2 (needS bs k (needE bs S)) ≤ S := by omega
  have := h.least (max 2 (needS bs k (needE bs S))) ⟨by omega, by
    have h1 := needS_mono bs k (needE_mono bs hle)
    omega⟩
  omega
def mostN (bs : List UInt8) (i : Nat) : Nat := needL (entN bs) i - 1
theorem mostN_succ (bs : List UInt8) (i : Nat) : mostN bs (i + 1) = max (mostN bs i) (entN bs i) := by
  unfold mostN
  rw [needL_succ]
  omega
theorem mostN_all (bs : List UInt8) (S : Nat) (h : 0 < S * num bs 0 4) : needE bs S = mostN bs (S * num bs 0 4) + 1 := by
  unfold mostN needE
  have := needL_lt (f := entN bs) (n := S * num bs 0 4) (i := 0) h
  omega
end Go.Proofs.YtlhnfpkenlenjaaDoor
end
