
/- What an argument that is a plan is; the contract of small; the walk of StateOwn. StateOwn returns true for every plan and every byte, and changes nothing: entries that are answered are apart, and what becomes of the bytes changes nothing. No condition beside the row's own. -/
import Derived.ChangeSame
import Derived.Test.YthepejljgolcoaaMSpeak
import Derived.Test.YthepejljgolcoaaFrame
namespace Go.Proofs.Ythepejljgolcoaa
section
open Go.ChangeShapes Go.WideShapes Go.ChangeAt Go.RowKit
variable {H : Type} {enc : TypeId × Value → H}
/-- Rows of cells behind a slice that lies in a cell. -/
theorem open_rows_cell {P : Program} {W : World} {t e : TypeId} {f : Nat} {v : Value} {y : DataW H × List MemPlace} (ht : P.underlying t = some (.slice e))
    (h : DataW.trod enc P W 0 (fun _ => true) true f t [v] = some y) :
    ∃ (a : Option Addr) (n c : Nat) (us : List (List Value)), v = .slice a n c ∧ us.length = n ∧ n ≤ c ∧ c ≤ maxLen ∧ (a = none → c = 0) ∧ Has W a us.flatten ∧ ∀ x ∈ us, x.length = P.cellsOf e ∧ ∃ m y, DataW.trod enc P W 0 (fun _ => true) true m e x = some y := by
  have hv : ∃ a n c, v = .slice a n c := by
    rcases Deep.open_slice ht h with ⟨hcs, _⟩ | ⟨x, l, c', m, k, D, Pl, hcs, _⟩
    · exact ⟨none, 0, 0, by simpa using hcs⟩
    · exact ⟨some x, l, c', by simpa using hcs⟩
  obtain ⟨a, n, c, rfl⟩ := hv
  rcases Deep.open_slice ht h with ⟨hcs, _⟩ | ⟨x, l, c', m, k, D, Pl, hcs, _, hl, hm, hmm, _, hi⟩
  · simp at hcs
    obtain ⟨rfl, rfl, rfl⟩ := hcs
    exact ⟨none, 0, 0, [], rfl, rfl, Nat.le_refl _, Nat.zero_le _, fun _ => rfl, Has.nil _ _, fun x hx => by cases hx⟩
  · simp at hcs
    obtain ⟨rfl, rfl, rfl⟩ := hcs
    simp only [if_true] at hmm
    subst hmm
    have hlen : ∀ i (h : i < n), (hi i (by omega)).choose.length = P.cellsOf e := fun i h => (World.cells?_some (hi i (by omega)).choose_spec.1).2.1
    refine ⟨some x, n, _, (List.range n).attach.map fun i => (hi i.1 (by have := List.mem_range.1 i.2; omega)).choose, rfl, by simp, hl, hm, (fun h => by cases h), ?_, ?_⟩
    · intro j u hu
      obtain ⟨i, q, y, h1, h2, rfl, hq⟩ := flatten_get (s := P.cellsOf e) _ _ _ (by
        intro y hy
        simp only [List.mem_map] at hy
        obtain ⟨i, _, rfl⟩ := hy
        exact hlen i.1 (List.mem_range.1 i.2)) hu
      refine ⟨x, rfl, ?_⟩
      have hin : i < n := by
        rcases Nat.lt_or_ge i n with g | g
        · exact g
        · rw [List.getElem?_eq_none (by simpa using g)] at h1; cases h1
      have hy : y = (hi i (by omega)).choose := by
        simp only [List.getElem?_map, List.getElem?_attach] at h1
        simp [List.getElem?_range hin] at h1
        exact h1.symm
      have hs := World.cells?_some (hi i (by omega)).choose_spec.1
      have := hs.2.2 q hq
      rw [Deep.add_add] at this
      rw [this, ← hy, h2]
    · intro y hy
      simp only [List.mem_map] at hy
      obtain ⟨i, _, rfl⟩ := hy
      exact ⟨hlen i.1 (List.mem_range.1 i.2), _, _, (hi i.1 (by have := List.mem_range.1 i.2; omega)).choose_spec.2⟩
theorem open_bytesC {P : Program} {W : World} {t e : TypeId} {f : Nat} {v : Value} {y : DataW H × List MemPlace} (ht : P.underlying t = some (.slice e)) (he : P.underlying e = some (.int .u8))
    (h : DataW.trod enc P W 0 (fun _ => true) true f t [v] = some y) : ∃ (a : Option Addr) (c : Nat) (bs : List UInt8), v = .slice a bs.length c ∧ Has W a (bytesV bs) := by
  obtain ⟨a, n, c, us, rfl, hl, _, _, _, hh, hx⟩ := open_rows_cell ht h
  have key : ∀ us : List (List Value), (∀ x ∈ us, ∃ m y, DataW.trod enc P W 0 (fun _ => true) true m e x = some y) → ∃ bs : List UInt8, bs.length = us.length ∧ us.flatten = bytesV bs := by
    intro us
    induction us with
    | nil => exact fun _ => ⟨[], rfl, rfl⟩
    | cons x us ih =>
      intro h
      obtain ⟨bs, h1, h2⟩ := ih (fun y hy => h y (by simp [hy]))
      obtain ⟨m, y, hy⟩ := h x (by simp)
      obtain ⟨z, rfl, _, hw⟩ := DataW.trod_int he hy
      obtain ⟨k, rfl, hk⟩ := wf_u8 hw
      refine ⟨UInt8.ofNat k :: bs, by simp [h1], ?_⟩
      have e1 : (UInt8.ofNat k).toNat = k := by simp; omega
      simp [h2, bytesV, e1]
  obtain ⟨bs, h1, h2⟩ := key us (fun x hx' => (hx x hx').2)
  exact ⟨a, c, bs, by rw [h1, hl], h2 ▸ hh⟩
theorem open_rowsC {P : Program} {W : World} {t e u : TypeId} {f : Nat} {v : Value} {y : DataW H × List MemPlace} (ht : P.underlying t = some (.slice e)) (he : P.underlying e = some (.slice u)) (hu : P.underlying u = some (.int .u8)) (hc : P.cellsOf e = 1)
    (h : DataW.trod enc P W 0 (fun _ => true) true f t [v] = some y) : ∃ (a : Option Addr) (c : Nat) (l : List (List UInt8)) (rv : List Value), v = .slice a l.length c ∧ Has W a rv ∧ rv.length = l.length ∧
      ∀ (i : Nat) (r : List UInt8), l[i]? = some r → ∃ (ai : Option Addr) (ci : Nat), rv[i]? = some (Value.slice ai r.length ci) ∧ Has W ai (bytesV r) := by
  obtain ⟨a, n, c, us, rfl, hl, _, _, _, hh, hx⟩ := open_rows_cell ht h
  have key : ∀ us : List (List Value), (∀ x ∈ us, x.length = P.cellsOf e ∧ ∃ m y, DataW.trod enc P W 0 (fun _ => true) true m e x = some y) → ∃ l : List (List UInt8), l.length = us.length ∧ us.flatten.length = l.length ∧
      ∀ (i : Nat) (r : List UInt8), l[i]? = some r → ∃ (ai : Option Addr) (ci : Nat), us.flatten[i]? = some (Value.slice ai r.length ci) ∧ Has W ai (bytesV r) := by
    intro us
    induction us with
    | nil => exact fun _ => ⟨[], rfl, rfl, fun i r hr => by simp at hr⟩
    | cons x us ih =>
      intro h
      obtain ⟨l, h1, h2, h3⟩ := ih (fun y hy => h y (by simp [hy]))
      obtain ⟨hlx, m, y, hy⟩ := h x (by simp)
      rw [hc] at hlx
      obtain ⟨x0, rfl⟩ : ∃ x0, x = [x0] := by
        match x, hlx with
        | [x0], _ => exact ⟨x0, rfl⟩
      obtain ⟨ai, ci, bs, rfl, hb⟩ := open_bytesC he hu hy
      refine ⟨bs :: l, by simp [h1], by simpa using h2, fun i r hr => ?_⟩
      match i with
      | 0 =>
        simp at hr
        subst hr
        exact ⟨ai, ci, by simp, hb⟩
      | i + 1 =>
        obtain ⟨aj, cj, q1, q2⟩ := h3 i r (by simpa using hr)
        exact ⟨aj, cj, by simpa using q1, q2⟩
  obtain ⟨l, h1, h2, h3⟩ := key us hx
  exact ⟨a, c, l, us.flatten, by rw [h1, hl], hh, h2, h3⟩
theorem open_entsC {P : Program} {W : World} {t e : TypeId} {f0 f1 f2 f3 : Field} {f : Nat} {v : Value} {y : DataW H × List MemPlace} (ht : P.underlying t = some (.slice e)) (he : P.underlying e = some (.struct #[f0, f1, f2, f3]))
    (h0 : P.underlying f0.type = some (.int .i64)) (h1 : P.underlying f1.type = some (.int .i64)) (h2 : P.underlying f2.type = some (.int .i64)) (h3 : P.underlying f3.type = some (.int .i64)) (o0 : f0.offset = 0) (o1 : f1.offset = 1) (o2 : f2.offset = 2) (o3 : f3.offset = 3)
    (c0 : P.cellsOf f0.type = 1) (c1 : P.cellsOf f1.type = 1) (c2 : P.cellsOf f2.type = 1) (c3 : P.cellsOf f3.type = 1) (ce : P.cellsOf e = 4)
    (h : DataW.trod enc P W 0 (fun _ => true) true f t [v] = some y) : ∃ (a : Option Addr) (c : Nat) (l : List (Int × Int × Int × Int)), v = .slice a l.length c ∧ Has W a (l.flatMap entC4) ∧ ∀ e ∈ l, wfI e.1 ∧ wfI e.2.1 ∧ wfI e.2.2.1 ∧ wfI e.2.2.2 := by
  obtain ⟨a, n, c, us, rfl, hl, _, _, _, hh, hx⟩ := open_rows_cell ht h
  have key : ∀ us : List (List Value), (∀ x ∈ us, x.length = P.cellsOf e ∧ ∃ m y, DataW.trod enc P W 0 (fun _ => true) true m e x = some y) → ∃ l : List (Int × Int × Int × Int), l.length = us.length ∧ us.flatten = l.flatMap entC4 ∧ ∀ e ∈ l, wfI e.1 ∧ wfI e.2.1 ∧ wfI e.2.2.1 ∧ wfI e.2.2.2 := by
    intro us
    induction us with
    | nil => exact fun _ => ⟨[], rfl, rfl, fun z hz => by cases hz⟩
    | cons x us ih =>
      intro h
      obtain ⟨zs, q1, q2, q3⟩ := ih (fun y hy => h y (by simp [hy]))
      obtain ⟨hlx, m, y, hy⟩ := h x (by simp)
      obtain ⟨y0, y1, y2, y3, k, _, _, t0, t1, t2, t3⟩ := Go.Joins.trod_struct4 he hy
      rw [o0, c0] at t0
      rw [o1, c1] at t1
      rw [o2, c2] at t2
      rw [o3, c3] at t3
      obtain ⟨z0, e0, _, w0⟩ := DataW.trod_int h0 t0
      obtain ⟨z1, e1, _, w1⟩ := DataW.trod_int h1 t1
      obtain ⟨z2, e2, _, w2⟩ := DataW.trod_int h2 t2
      obtain ⟨z3, e3, _, w3⟩ := DataW.trod_int h3 t3
      rw [ce] at hlx
      have hxe : x = entC4 (z0, z1, z2, z3) := by
        match x, hlx with
        | [x0, x1, x2, x3], _ =>
          simp at e0 e1 e2 e3
          rw [e0, e1, e2, e3]
          rfl
      exact ⟨(z0, z1, z2, z3) :: zs, by simp [q1], by rw [List.flatten_cons, hxe, q2]; rfl, fun z hz => by
        rcases List.mem_cons.1 hz with rfl | hz
        · exact ⟨wf_i64 w0, wf_i64 w1, wf_i64 w2, wf_i64 w3⟩
        · exact q3 z hz⟩
  obtain ⟨l, q1, q2, q3⟩ := key us hx
  exact ⟨a, c, l, by rw [q1, hl], q2 ▸ hh, q3⟩
set_option maxRecDepth 100000 in
theorem open_plan {W : World} {base : Nat} {v : Value} {d : DataW H} {pl : List MemPlace} (hv : Value.okWide Try.prog W .any base 59 v) (h : DataW.Trod enc Try.prog W 0 (fun _ => true) true 59 v d pl) :
    ∃ (p : PlanL) (aC aR aE : Option Addr) (rv : List Value) (cC cR cE : Nat), v = .agg #[.slice aC p.cls.length cC, .slice aR p.rows.length cR, .slice aE p.ents.length cE, .int .u8 (p.wide.toNat : Nat)] ∧ PlanHas W p aC aR rv aE ∧ ∀ e ∈ p.ents, wfI e.1 ∧ wfI e.2.1 ∧ wfI e.2.2.1 ∧ wfI e.2.2.2 := by
  obtain ⟨v0, v1, v2, v3, y0, y1, y2, y3, n, rfl, _, _, h0, h1, h2, h3⟩ := Go.Joins.open_agg4 Try.underlying59 (by kernel_rfl) (by kernel_rfl) hv h
  obtain ⟨aC, cC, bs, rfl, hC⟩ := open_bytesC Try.underlying22 Try.underlying5 h0
  obtain ⟨aR, cR, l, rv, rfl, hR, hRl, hRr⟩ := open_rowsC Try.underlying56 Try.underlying22 Try.underlying5 (by kernel_rfl) h1
  obtain ⟨aE, cE, es, rfl, hE, hEw⟩ := open_entsC Try.underlying57 Try.underlying63 Try.underlying3 Try.underlying3 Try.underlying3 Try.underlying3 rfl rfl rfl rfl (by kernel_rfl) (by kernel_rfl) (by kernel_rfl) (by kernel_rfl) (by kernel_rfl) h2
  obtain ⟨z, e0, _, hw⟩ := DataW.trod_int Try.underlying5 h3
  obtain ⟨k, rfl, hk⟩ := wf_u8 hw
  injection e0 with e0
  subst e0
  have e1 : ((UInt8.ofNat k).toNat : Int) = k := by simp; omega
  refine ⟨⟨bs, l, es, UInt8.ofNat k⟩, aC, aR, aE, rv, cC, cR, cE, ?_, ⟨hC, hR, hRl, hRr, hE⟩, hEw⟩
  rw [e1]
end

open Go.RowKit Go.Lib
theorem planB_length (p : PlanL) (k room : Nat) (hk : k ≤ 2) : (planB p k room).length = 22 + room + 2 * p.cls.length + 2 * (p.rows.length * p.n) + p.ents.length * (4 + 2 * k) := by
  simp only [planB, ofB, List.length_append, beN_length, List.length_replicate, clsB_length, rowsPB_length, entsPB_length _ _ hk]
  omega
theorem row_at {w : World} {base e size n c : Nat} {a : Option Addr} {xs : List Value} (h : w.ownsRow base e size (.slice a n c) n xs) (j : Nat) (hj : j < n * size) :
    ∃ (g : Nat) (cs : Array Value) (u : Value), a = some ⟨g, 0, none⟩ ∧ base ≤ g ∧ w.heap[g]? = some (.cells cs e (0, 0)) ∧ w.cell? ⟨g, j, none⟩ = some u ∧ u ∈ xs ∧ w.frozen? ⟨g, j, none⟩ = false ∧ ∀ v, (w.setCell ⟨g, j, none⟩ v).ownsRow base e size (.slice a n c) n (xs.set j v) := by
  have hlen : xs.length = n * size := h.1
  rcases h.2 with ⟨_, rfl⟩ | ⟨g, cap, cur, hv, hg, hc, _⟩
  · simp at hj
  · injection hv with h1 h2 h3
    subst h1 h3
    refine ⟨g, cur, xs[j]'(by omega), rfl, hg, hc, ?_, List.getElem_mem _, h.frozenAt j, fun v => (h.stored j v).1⟩
    rw [h.cellAt j (by omega), List.getElem?_eq_getElem (by omega)]
set_option maxRecDepth 100000 in
theorem small_yes (aC aR aE : Option Addr) (nC nR nE cC cR cE : Nat) (y : Int) (w : World) (h : nC ≤ 40 ∧ nR ≤ 20 ∧ nE ≤ 40) :
    Calls Try.prog 21 #[.agg #[.slice aC nC cC, .slice aR nR cR, .slice aE nE cE, .int .u8 y]] w fun e w' => e = .returned (.bool true) ∧ Below w.heap.size w w' := by
  have d1 : decide ((nC : Int) ≤ 40) = true := by simp; omega
  have d2 : decide ((nR : Int) ≤ 20) = true := by simp; omega
  have d3 : decide ((nE : Int) ≤ 40) = true := by simp; omega
  clear h
  go_enter Try.func21, Try.ntmps21
  go_wp2_with fail
  go_ret
  exact ⟨rfl, blw⟩
set_option maxRecDepth 100000 in
theorem small_no (aC aR aE : Option Addr) (nC nR nE cC cR cE : Nat) (y : Int) (w : World) (h : ¬ (nC ≤ 40 ∧ nR ≤ 20 ∧ nE ≤ 40)) :
    Calls Try.prog 21 #[.agg #[.slice aC nC cC, .slice aR nR cR, .slice aE nE cE, .int .u8 y]] w fun e w' => e = .returned (.bool false) ∧ Below w.heap.size w w' := by
  by_cases h1 : nC ≤ 40
  case neg =>
    have d1 : decide ((nC : Int) ≤ 40) = false := by simp; omega
    clear h h1
    go_enter Try.func21, Try.ntmps21
    go_wp2_with fail
    go_ret
    exact ⟨rfl, blw⟩
  have d1 : decide ((nC : Int) ≤ 40) = true := by simp; omega
  by_cases h2 : nR ≤ 20
  case neg =>
    have d2 : decide ((nR : Int) ≤ 20) = false := by simp; omega
    clear h h1 h2
    go_enter Try.func21, Try.ntmps21
    go_wp2_with fail
    go_ret
    exact ⟨rfl, blw⟩
  have d2 : decide ((nR : Int) ≤ 20) = true := by simp; omega
  have d3 : decide ((nE : Int) ≤ 40) = false := by simp; omega
  clear h h1 h2
  go_enter Try.func21, Try.ntmps21
  go_wp2_with fail
  go_ret
  exact ⟨rfl, blw⟩

def AllI64 (xs : List Value) : Prop := ∀ u ∈ xs, ∃ z : Int, u = .int .i64 z
theorem AllI64.set {xs : List Value} (h : AllI64 xs) (j : Nat) (z : Int) : AllI64 (xs.set j (.int .i64 z)) := by
  intro u hu
  rcases List.mem_or_eq_of_mem_set hu with hu | rfl
  · exact h u hu
  · exact ⟨z, rfl⟩
theorem i64_ents (vb : List UInt8) (k n : Nat) : AllI64 (entsV vb k n) := by
  intro u hu
  simp only [entsV, List.mem_flatMap, entV, List.mem_cons, List.not_mem_nil, or_false] at hu
  obtain ⟨p, _, rfl | rfl | rfl | rfl⟩ := hu <;> exact ⟨_, rfl⟩
theorem notM_u8 : notM fun _ t' => t' = 5 := ⟨fun _ => (by decide : ¬ ((99 : Nat) = 5)), fun _ => (by decide : ¬ ((32 : Nat) = 5)), fun _ => (by decide : ¬ ((63 : Nat) = 5)), fun _ => (by decide : ¬ ((97 : Nat) = 5)), fun _ => (by decide : ¬ ((82 : Nat) = 5)), fun _ => (by decide : ¬ ((110 : Nat) = 5)), fun _ => (by decide : ¬ ((80 : Nat) = 5))⟩
set_option maxRecDepth 100000 in
set_option maxHeartbeats 3200000 in
theorem stateOwn_walk (p : PlanL) (aC aR aE : Option Addr) (rv : List Value) (cC cR cE : Nat) (y : Int) (w : World) (h : PlanHas w p aC aR rv aE) (hwf : ∀ e ∈ p.ents, wfI e.1 ∧ wfI e.2.1 ∧ wfI e.2.2.1 ∧ wfI e.2.2.2) :
    Calls Try.prog 7 #[.agg #[.slice aC p.cls.length cC, .slice aR p.rows.length cR, .slice aE p.ents.length cE, .int .u8 (p.wide.toNat : Nat)], .int .u8 y] w fun e w' => e = .returned (.bool true) ∧ Below w.heap.size w w' := by
  have hAC := allocC
  have hAF := allocF
  have HSP := Lib.hid (fun W => speaks7_any W)
  have hlen := planB_length p 1 0 (by omega)
  have hpn : p.n ≤ 11 := by unfold PlanL.n; omega
  obtain ⟨bs, hbs⟩ : ∃ bs, bs = planB p 1 0 := ⟨_, rfl⟩
  obtain ⟨nB, hnB⟩ : ∃ nB, nB = bs.length := ⟨_, rfl⟩
  have hWRS : ∀ W, Below w.heap.size w W → p.cls.length ≤ 40 ∧ p.rows.length ≤ 20 ∧ p.ents.length ≤ 40 → Calls Try.prog 22 #[.agg #[.slice aC p.cls.length cC, .slice aR p.rows.length cR, .slice aE p.ents.length cE, .int .u8 (p.wide.toNat : Nat)], .int .i64 1, .int .i64 0] W fun e w' => ∃ a' c', e = .returned (.slice a' nB c') ∧ w'.ownsRow W.heap.size 5 1 (.slice a' nB c') nB (bytesV bs) ∧ nB ≤ c' ∧ c' ≤ maxLen ∧ (a' = none → c' = 0) ∧ Below W.heap.size W w' := by
    intro W hW hs
    subst hnB hbs
    exact write_any p 1 0 1 0 rfl rfl aC aR aE rv cC cR cE W (h.below hW) (by omega) (by omega) (by omega) (by omega) (by omega) hwf
  rw [← hbs, ← hnB] at hlen
  have HL := Lib.hid hnB.symm
  clear hbs hnB h hwf
  have hmul : p.rows.length ≤ 20 → p.rows.length * p.n ≤ 20 * 11 := fun hr => Nat.mul_le_mul hr hpn
  generalize p.cls.length = nC at *
  generalize p.rows.length = nR at *
  generalize p.ents.length = nE at *
  generalize p.wide.toNat = wy at *
  by_cases hs : nC ≤ 40 ∧ nR ≤ 20 ∧ nE ≤ 40
  case neg =>
    have HSM := Lib.hid (fun W => small_no aC aR aE nC nR nE cC cR cE (wy : Int) W hs)
    clear hWRS hlen hmul hs
    go_enter Try.func7, Try.ntmps7
    go_wp2_with (first | (go_at_call 15; (with_reducible refine (HSP.out _).mono ?_); rintro e w1 ⟨rfl, hb1⟩; have h1c := bc hb1; have h1f := bf hb1; have h1z := hb1.size; try simp only [World.size_alloc, World.size_drew] at h1z) | (go_at_call 21; (with_reducible refine (HSM.out _).mono ?_); rintro e w2 ⟨rfl, hb2⟩; have h2c := bc hb2; have h2f := bf hb2; have h2z := hb2.size; try simp only [World.size_alloc, World.size_drew] at h2z))
    go_ret
    exact ⟨rfl, blw⟩
  have hn2 : nB ≤ 2000 := by
    have := hmul hs.2.1
    have : nE * (4 + 2 * 1) ≤ 40 * 6 := Nat.mul_le_mul hs.2.2 (Nat.le_refl _)
    omega
  have hn1 : 0 < nB := by omega
  have HSM := Lib.hid (fun W => small_yes aC aR aE nC nR nE cC cR cE (wy : Int) W hs)
  have HWR := Lib.hid (fun W hW => hWRS W hW hs)
  clear hWRS hlen hmul hs hpn
  go_enter Try.func7, Try.ntmps7
  go_wp2_with (first
    | (go_at_call 15; (with_reducible refine (HSP.out _).mono ?_); rintro e w1 ⟨rfl, hb1⟩; have h1c := bc hb1; have h1f := bf hb1; have h1z := hb1.size; try simp only [World.size_alloc, World.size_drew] at h1z)
    | (go_at_call 21; (with_reducible refine (HSM.out _).mono ?_); rintro e w2 ⟨rfl, hb2⟩; have h2c := bc hb2; have h2f := bf hb2; have h2z := hb2.size; try simp only [World.size_alloc, World.size_drew] at h2z)
    | (go_at_call 22; (with_reducible refine (HWR.out _ (by exact blw)).mono ?_); rintro e w3 ⟨a1, c1, rfl, hown, k11, k12, k13, hb3⟩; have HO3 := Lib.hid hown; have HBB := Lib.hid hb3; have HHb := Lib.hid (has_of_owns hown); have h3z := hb3.size; clear hown hb3)
    | (at_builtin; refine wpApp rfl _ _ 22 rfl w3.heap.size 5 (.int .u8 0) 1 1 Try.underlying22 u8_info rfl (by decide) _ 0 [] rfl (World.ownsRow_lit w3 #[] 0 (Nat.le_refl _) (by decide) rfl) a1 nB c1 (bytesV bs) rfl (by rw [bytesV_length, HL.out]; omega) (HHb.out.below (balloc (brefl w3) _)) k13 (bytesV_one bs) (by unfold maxLen; omega) (by omega) (by simp) ?_; intro a2 c2 w4 hown2 k21 k22 k23 hb4 hg4; rw [Nat.zero_add] at *; have HO4 := Lib.hid hown2; have HB4 := Lib.hid ((balloc (brefl w3) (.cells #[] 5)).trans hb4); have hz4 := hg4.size; clear hown2 hg4 k23))
  have hO4 := HO4.out
  rw [List.nil_append] at hO4
  have HO4 := Lib.hid hO4
  have HH4 := Lib.hid (has_of_owns hO4)
  have hb3 := HBB.out
  have HB3 := Lib.hid (show Below w.heap.size w w3 from by exact blw)
  have hw3 : w.heap.size ≤ w3.heap.size := HB3.out.size
  have hw4 : w3.heap.size ≤ w4.heap.size := HB4.out.size
  have HBW := Lib.hid (HB3.out.trans (HB4.out.mono hw3))
  have HHB4 := Lib.hid (HHb.out.below HB4.out)
  have hA1 : ∃ p, a1 = some p ∧ p.block < w3.heap.size := by
    obtain ⟨g, cs, u, ha, _, hh, _⟩ := row_at HO3.out 0 (by omega)
    exact ⟨_, ha, (Array.getElem?_eq_some_iff.1 hh).1⟩
  clear hO4 hb1 hb2 hb3 h1c h1f h1z h2c h2f h2z h3z hb4 hz4 HO3 HHb HBB HSP HSM HWR hAC hAF
  by_cases hok : ∃ rs S, MOk bs 30 1 rs S
  case neg =>
    refine (mread_none a2 nB c2 bs 30 1 30 1 rfl rfl w4 HH4.out HL.out k21 k22 (by decide) (by decide) (by decide) (fun rs S hr => hok ⟨rs, S, hr⟩)).mono ?_
    rintro e w5 ⟨rfl, hb5⟩
    have HB5 := Lib.hid (HBW.out.trans (hb5.mono (by omega)))
    clear hb5 hok
    go_wp2_with fail
    go_ret
    exact ⟨rfl, HB5.out⟩
  obtain ⟨rs, S, hok⟩ := hok
  refine (mread_some a2 nB c2 bs 30 1 30 1 rfl rfl rs S w4 HH4.out HL.out k21 k22 (by decide) (by decide) (by decide) hok).mono ?_
  rintro e w5 ⟨g, rfl, hM, hb5⟩
  have HOK := Lib.hid hok
  have HM5 := Lib.hid hM
  have HO5 := Lib.hid (owns_below HO4.out hb5 (Nat.le_refl _))
  have HB5 := Lib.hid (HBW.out.trans (hb5.mono (by omega)))
  have HHB5 := Lib.hid (HHB4.out.below hb5)
  obtain ⟨p1, rfl, hp1⟩ := hA1
  clear hok hM hb5 HH4 HHB4 HO4 HB4 HBW HB3
  go_wp2_with fail
  go_loopw [33] (fun i wr => ∃ j : Nat, j ≤ nB ∧ i = .int .i64 (j : Nat) ∧ MIs w4.heap.size g bs 1 rs S wr ∧ (∃ xs, wr.ownsRow w3.heap.size 5 1 (.slice a2 nB c2) nB xs) ∧ Has wr (some p1) (bytesV bs) ∧ Below w.heap.size w wr) (fun i _ => nB - (intOf i).toNat)
  case atStart => exact ⟨0, Nat.zero_le _, rfl, HM5.out, ⟨_, HO5.out⟩, HHB5.out, HB5.out⟩
  case round =>
    obtain ⟨j, hj, rfl, hM, ⟨xs, hx⟩, hh, hb⟩ := hrel
    have HM6 := Lib.hid hM
    have HX6 := Lib.hid hx
    have HH6 := Lib.hid hh
    have HB6 := Lib.hid hb
    have hwr : w.heap.size ≤ wr.heap.size := hb.size
    clear hM hx hh hb
    by_cases hlt : j < nB
    · obtain ⟨g3, cs3, u3, hap, hg3, hh3, hcell, _, hfr, hset⟩ := row_at HX6.out j (by omega)
      subst hap
      have HS := Lib.hid (hset (.int .u8 y))
      have HM7 := Lib.hid (HM6.out.setOther (o := j) hh3 notM_u8 (.int .u8 y))
      have HH7 := Lib.hid (has_set (o := j) HH6.out (g := g3) (fun _ p hp => by cases hp; omega) (.int .u8 y))
      have HB7 := Lib.hid (HB6.out.setCell (p := ⟨g3, j, none⟩) (by show w.heap.size ≤ g3; omega) (.int .u8 y))
      have hl3 := cell_lt hcell
      clear hset hh3
      go_wp2_with fail
      go_roundw
      case rel => exact ⟨j + 1, hlt, by go_num, HM7.out, ⟨_, HS.out⟩, HH7.out, HB7.out⟩
      case measure => simp [intOf]; omega
    · obtain rfl : nB = j := by omega
      clear HX6
      have HEN := Lib.hid (entries_any w4.heap.size g bs 1 rs S wr HM6.out)
      go_wp2_with (first | (go_at_call 26; (with_reducible refine HEN.out.mono ?_); rintro e w6 ⟨a6, c6, rfl, hoe, ke1, ke2, ke3, hb6⟩; have HOE := Lib.hid hoe; have HB6E := Lib.hid hb6; clear hoe hb6))
      have hE6 := needE_le bs S
      have HB8 := Lib.hid (HB6.out.trans (HB6E.out.mono hwr))
      go_loopw [45] (fun i wq => ∃ j : Nat, j ≤ needE bs S ∧ i = .int .i64 (j : Nat) ∧ (∃ xs, wq.ownsRow wr.heap.size 63 4 (.slice a6 (needE bs S) c6) (needE bs S) xs ∧ AllI64 xs) ∧ Below wr.heap.size wr wq) (fun i _ => needE bs S - (intOf i).toNat)
      case atStart => exact ⟨0, Nat.zero_le _, rfl, ⟨_, HOE.out, i64_ents _ _ _⟩, HB6E.out⟩
      case round =>
        obtain ⟨j, hj, rfl, ⟨xs, hx, hxi⟩, hb⟩ := hrel
        rename World => wq
        have HX9 := Lib.hid hx
        have HI9 := Lib.hid hxi
        have HB9 := Lib.hid hb
        clear hx hxi hb
        by_cases hlt : j < needE bs S
        · obtain ⟨g6, cs6, u6, hap, hg6, hh6, hcell, hu6, hfr, hset⟩ := row_at HX9.out (j * 4) (by omega)
          obtain ⟨z6, rfl⟩ := HI9.out _ hu6
          subst hap
          have HS := Lib.hid hset
          have hl6 := cell_lt hcell
          have HG6 := Lib.hid hg6
          clear hset hh6 hu6
          generalize needE bs S = NE at *
          go_wp2_with fail
          go_roundw
          case rel => exact ⟨j + 1, hlt, by go_num, ⟨_, HS.out _, HI9.out.set _ _⟩, HB9.out.setCell (p := ⟨g6, j * 4, none⟩) HG6.out _⟩
          case measure => simp [intOf]; omega
        · obtain ⟨NE, hNE⟩ : ∃ NE, NE = needE bs S := ⟨_, rfl⟩
          have hjN : NE = j := by omega
          have hwq : wr.heap.size ≤ wq.heap.size := HB9.out.size
          have HBQ := Lib.hid (HB6.out.trans (HB9.out.mono hwr))
          have HMQ := Lib.hid (HM6.out.below HB9.out)
          have HHQ := Lib.hid (HH6.out.below HB9.out)
          have HRF := Lib.hid ((refM_any (some p1) nB c1 bs 30 1 30 1 rfl rfl wq HHQ.out HL.out k11 k12 hn2 (by decide) (by decide) (by decide)).mono (R' := fun e w' => (∃ a' c', e = .returned (.tuple #[.agg (mrefA (some p1) nB c1 (num bs 0 4) (num bs 8 4) (num bs 12 4) S (needE bs S) 1 (adv (some p1) c1 (num bs 4 4)) (nB - num bs 4 4) (c1 - num bs 4 4) a' rs.length c'), .bool true])) ∧ Below wq.heap.size wq w') (by
            rintro e w' ⟨(⟨rs', S', a', c', ho, he⟩ | ⟨hno, _⟩), hb⟩
            · obtain ⟨rfl, rfl⟩ := HOK.out.det ho
              exact ⟨⟨a', c', he⟩, hb⟩
            · exact absurd HOK.out (hno rs S)))
          have HSM := Lib.hid (fun (a' : Option Addr) (c' : Nat) W' (hW' : Below wq.heap.size wq W') => same_any w4.heap.size g bs 1 rs S (some p1) nB c1 bs 30 1 rs S (adv (some p1) c1 (num bs 4 4)) (nB - num bs 4 4) (c1 - num bs 4 4) a' rs.length c' W' (HMQ.out.below hW') (HHQ.out.below hW') HL.out hn2 HOK.out (by decide) rfl (Alike.refl bs S 1))
          unfold mrefA at HRF HSM
          rw [show ((1 : Nat) : Int) = 1 from rfl] at HSM
          rw [← hNE] at *
          generalize num bs 0 4 = P0 at *
          generalize num bs 4 4 = P4 at *
          generalize num bs 8 4 = P8 at *
          generalize num bs 12 4 = P12 at *
          generalize adv (some p1) c1 P4 = A4 at *
          generalize rs.length = L at *
          clear hNE HX9 HI9 HOE
          subst hjN
          go_wp2_with (first | (go_at_call 17; (with_reducible refine HRF.out.mono ?_); rintro e wt ⟨⟨a', c', rfl⟩, hb3⟩; have h3c := bc hb3; have h3f := bf hb3; have h3z := hb3.size) | (go_at_call 18; (with_reducible refine (HSM.out a' c' _ (by exact blw)).mono ?_); rintro e wu ⟨rfl, hb4⟩))
          go_ret
          exact ⟨rfl, HBQ.out.trans (Below.mono (show Below wq.heap.size wq _ from by exact blw) HBQ.out.size)⟩

open Go.ChangeShapes Go.WideShapes Go.ChangeAt Go.RowKit
open Go.ChangeMaps (open_string shut_string)

set_option maxRecDepth 100000 in
theorem stateOwn_walks (H : Type) (enc : TypeId × Value → H) : Walks H enc 7 [59, 5] := by
  intro W base args ds p hval hA _
  obtain ⟨v0, vs0, d0, ds0, p0, q0, hargs, rfl, rfl, h0, r0⟩ := trodAll_cons hA
  obtain ⟨v1, vs1, d1, ds1, p1, q1, rfl, rfl, rfl, h1, r1⟩ := trodAll_cons r0
  obtain ⟨rfl, rfl, rfl⟩ := trodAll_nil r1
  obtain rfl : args = #[v0, v1] := by cases args; simp_all
  obtain ⟨p, aC, aR, aE, rv, cC, cR, cE, rfl, hP, hw⟩ := open_plan (hval 0 59 v0 rfl rfl) h0
  obtain ⟨z1, rfl, t1⟩ := open_int Try.underlying5 (hval 1 5 v1 rfl rfl) h1
  exact stateOwn_walk p aC aR aE rv cC cR cE z1 W hP hw

set_option maxRecDepth 100000 in
theorem stateOwn_lifted (os : Os) (started : os.Started) (H : Type) (enc : TypeId × Value → H) :
    ReturnsInHanded {} Try.checked os 7 .any (Rows.stateOwnSpec.pre6 enc Try.prog Try.f7 Rows.stateOwnRow.domain false) (Rows.stateOwnSpec.post enc Try.prog Try.f7 false true false false) :=
  lift_law (s := Rows.stateOwnSpec) (fn := Try.f7) started (by kernel_rfl) Try.func7
    (ChangeSpec.witness6 (enc := enc) (C := Try.checked) false ⟨#[], #[.agg #[.slice none 0 0, .slice none 0 0, .slice none 0 0, .int .u8 0], .int .u8 0], []⟩ 8 (by kernel_rfl) (by kernel_rfl) (by kernel_rfl) (by kernel_rfl))
    rfl rfl (fun ds h => by match ds, h with | [d0, d1], _ => rfl) (by intro t ht; simp [Try.params7] at ht; first | (subst ht; exact ⟨by kernel_rfl, of_decide_eq_true (by kernel_rfl)⟩) | (obtain rfl | rfl := ht <;> exact ⟨by kernel_rfl, of_decide_eq_true (by kernel_rfl)⟩) | (obtain rfl | rfl | rfl := ht <;> exact ⟨by kernel_rfl, of_decide_eq_true (by kernel_rfl)⟩) | (obtain rfl | rfl | rfl | rfl := ht <;> exact ⟨by kernel_rfl, of_decide_eq_true (by kernel_rfl)⟩))
    (by rw [Try.params7]; exact stateOwn_walks H enc)
theorem stateOwn_over : Rows.stateOwnRow.holds Try.pinned (OpenSpec.ofChange Rows.stateOwnSpec) :=
  OpenClaim.holds_of_wide 7 Try.f7 rfl rfl rfl rfl rfl rfl rfl ⟨rfl, rfl, rfl, rfl, rfl⟩ rfl rfl rfl rfl rfl (by kernel_rfl) Try.func7 (by kernel_rfl)
    (of_decide_eq_true (by kernel_rfl)) (by unfold Func.isWrapper; first | (rw [if_pos (by decide +kernel)]; kernel_rfl) | (rw [if_neg (by decide +kernel)]; exact ⟨rfl, rfl⟩))
    (fun os started H enc _ => stateOwn_lifted os started H enc)
theorem stateOwn_proved : Rows.StateOwnSaid := stateOwn_over
#print axioms stateOwn_proved
end Go.Proofs.Ythepejljgolcoaa
