
/- What the arguments of package pick's statements are; how big a case is; that the layer speaks. Conditions: as each says. -/
import Derived.ChangeSame
import Derived.Lib.SmallJoins
import Derived.Test.YtfnghinefbmlmaaPickY
import Derived.Test.YtfnghinefbmlmaaFrame
namespace Go.Proofs.Ytfnghinefbmlmaa
section
open Go.ChangeShapes Go.WideShapes Go.ChangeAt Go.RowKit
variable {H : Type} {enc : TypeId × Value → H}
theorem open_bytesK {P : Program} {W : World} {t e : TypeId} {f : Nat} {v : Value} {y : DataW H × List MemPlace} (ht : P.underlying t = some (.slice e)) (he : P.underlying e = some (.int .u8))
    (h : DataW.trod enc P W 0 (fun _ => true) true f t [v] = some y) : ∃ (a : Option Addr) (n c : Nat) (bs : List UInt8), v = .slice a n c ∧ bs.length = n ∧ n ≤ c ∧ c ≤ maxLen ∧ Has W a (bytesV bs) := by
  obtain ⟨a, n, c, us, rfl, hl, hn, hc, _, hh, hx⟩ := open_rows_cell ht h
  have key : ∀ us : List (List Value), (∀ x ∈ us, ∃ m y, DataW.trod enc P W 0 (fun _ => true) true m e x = some y) → ∃ bs : List UInt8, bs.length = us.length ∧ us.flatten = bytesV bs := by
    intro us
    induction us with
    | nil => exact fun _ => ⟨[], rfl, rfl⟩
    | cons x us ih =>
      intro h
      obtain ⟨bs, h1, h2⟩ := ih (fun y hy => h y (by simp [hy]))
      obtain ⟨m, y, hy⟩ := h x (by simp)
      obtain ⟨z, rfl, _, hw⟩ := DataW.trod_int he hy
      obtain ⟨k, rfl, hk⟩ := wf_u8 hw
      refine ⟨UInt8.ofNat k :: bs, by simp [h1], ?_⟩
      have e1 : (UInt8.ofNat k).toNat = k := by simp; omega
      simp [h2, bytesV, e1]
  obtain ⟨bs, h1, h2⟩ := key us (fun x hx' => (hx x hx').2)
  exact ⟨a, n, c, bs, rfl, h1.trans hl, hn, hc, h2 ▸ hh⟩
theorem open_boolsK {P : Program} {W : World} {t e : TypeId} {f : Nat} {v : Value} {y : DataW H × List MemPlace} (ht : P.underlying t = some (.slice e)) (he : P.underlying e = some .bool)
    (h : DataW.trod enc P W 0 (fun _ => true) true f t [v] = some y) : ∃ (a : Option Addr) (n c : Nat) (bs : List Bool), v = .slice a n c ∧ bs.length = n ∧ n ≤ c ∧ c ≤ maxLen ∧ Has W a (boolsV bs) := by
  obtain ⟨a, n, c, us, rfl, hl, hn, hc, _, hh, hx⟩ := open_rows_cell ht h
  have key : ∀ us : List (List Value), (∀ x ∈ us, ∃ m y, DataW.trod enc P W 0 (fun _ => true) true m e x = some y) → ∃ bs : List Bool, bs.length = us.length ∧ us.flatten = boolsV bs := by
    intro us
    induction us with
    | nil => exact fun _ => ⟨[], rfl, rfl⟩
    | cons x us ih =>
      intro h
      obtain ⟨bs, h1, h2⟩ := ih (fun y hy => h y (by simp [hy]))
      obtain ⟨m, y, hy⟩ := h x (by simp)
      obtain ⟨z, rfl, _⟩ := DataW.trod_bool he hy
      exact ⟨z :: bs, by simp [h1], by simp [h2, boolsV]⟩
  obtain ⟨bs, h1, h2⟩ := key us (fun x hx' => (hx x hx').2)
  exact ⟨a, n, c, bs, rfl, h1.trans hl, hn, hc, h2 ▸ hh⟩
theorem set_rows {P : Program} {W : World} {e : TypeId} {f0 f1 : Field} (he : P.underlying e = some (.struct #[f0, f1]))
    (h0 : P.underlying f0.type = some (.int .i64)) (h1 : P.underlying f1.type = some (.int .i64)) (o0 : f0.offset = 0) (o1 : f1.offset = 1) (c0 : P.cellsOf f0.type = 1) (c1 : P.cellsOf f1.type = 1) (ce : P.cellsOf e = 2) :
    ∀ us : List (List Value), (∀ x ∈ us, x.length = P.cellsOf e ∧ ∃ m y, DataW.trod enc P W 0 (fun _ => true) true m e x = some y) → ∃ zs : List St, zs.length = us.length ∧ us.flatten = gv zs ∧ ∀ z ∈ zs, wfS z := by
  intro us
  induction us with
  | nil => exact fun _ => ⟨[], rfl, rfl, fun z hz => by cases hz⟩
  | cons x us ih =>
    intro h
    obtain ⟨zs, q1, q2, q3⟩ := ih (fun y hy => h y (by simp [hy]))
    obtain ⟨hlx, m, y, hy⟩ := h x (by simp)
    obtain ⟨y0, y1, k, _, _, t0, t1⟩ := Go.ChangeShapes.trod_struct2 he hy
    rw [o0, c0] at t0
    rw [o1, c1] at t1
    obtain ⟨z0, e0, _, w0⟩ := DataW.trod_int h0 t0
    obtain ⟨z1, e1, _, w1⟩ := DataW.trod_int h1 t1
    rw [ce] at hlx
    have hxe : x = [.int .i64 z0, .int .i64 z1] := by
      match x, hlx with
      | [x0, x1], _ =>
        simp at e0 e1
        rw [e0, e1]
    exact ⟨(z0, z1) :: zs, by simp [q1], by rw [List.flatten_cons, hxe, q2]; rfl, fun z hz => by
      rcases List.mem_cons.1 hz with rfl | hz
      · exact ⟨w0, w1⟩
      · exact q3 z hz⟩
set_option maxRecDepth 100000 in
theorem open_setsC {W : World} {f : Nat} {v : Value} {y : DataW H × List MemPlace} (h : DataW.trod enc Try.prog W 0 (fun _ => true) true f 39 [v] = some y) :
    ∃ (a : Option Addr) (n c : Nat) (zs : List St), v = .slice a n c ∧ zs.length = n ∧ n ≤ c ∧ c ≤ maxLen ∧ (a = none → c = 0) ∧ Has W a (gv zs) ∧ ∀ z ∈ zs, wfS z := by
  obtain ⟨a, n, c, us, rfl, hl, hn, hc, hA, hh, hx⟩ := open_rows_cell Try.underlying39 h
  obtain ⟨zs, q1, q2, q3⟩ := set_rows Try.underlying44 (by kernel_rfl) (by kernel_rfl) rfl rfl (by kernel_rfl) (by kernel_rfl) (by kernel_rfl) us hx
  exact ⟨a, n, c, zs, rfl, q1.trans hl, hn, hc, hA, q2 ▸ hh, q3⟩
set_option maxRecDepth 100000 in
theorem open_sets {W : World} {base : Nat} {v : Value} {d : DataW H} {p : List MemPlace} (hv : Value.okWide Try.prog W .any base 39 v) (h : DataW.Trod enc Try.prog W 0 (fun _ => true) true 39 v d p) :
    ∃ (a : Option Addr) (n c : Nat) (zs : List St), v = .slice a n c ∧ zs.length = n ∧ n ≤ c ∧ c ≤ maxLen ∧ (a = none → c = 0) ∧ Has W a (gv zs) ∧ ∀ z ∈ zs, wfS z := by
  obtain ⟨a, n, c, us, rfl, hl, hn, hc, hA, hh, hx⟩ := open_rows Try.underlying39 hv h
  obtain ⟨zs, q1, q2, q3⟩ := set_rows Try.underlying44 (by kernel_rfl) (by kernel_rfl) rfl rfl (by kernel_rfl) (by kernel_rfl) (by kernel_rfl) us hx
  exact ⟨a, n, c, zs, rfl, q1.trans hl, hn, hc, hA, q2 ▸ hh, q3⟩
/-- A case in memory. -/
structure CaseOk (W : World) (a : Option Addr) (n c : Nat) (l : List St) (ka : Option Addr) (kn kc : Nat) (ks : List UInt8) (xa : Option Addr) (xn xc : Nat) (xs : List Bool) : Prop where
  len : l.length = n
  cap : n ≤ c ∧ c ≤ maxLen ∧ (a = none → c = 0)
  has : Has W a (gv l)
  wf : ∀ z ∈ l, wfS z
  klen : ks.length = kn
  kcap : kn ≤ maxLen
  khas : Has W ka (bytesV ks)
  xlen : xs.length = xn
  xcap : xn ≤ maxLen
  xhas : Has W xa (boolsV xs)
abbrev caseV (a : Option Addr) (n c : Nat) (ka : Option Addr) (kn kc : Nat) (xa : Option Addr) (xn xc : Nat) : Value := .agg #[.slice a n c, .slice ka kn kc, .slice xa xn xc]
set_option maxRecDepth 100000 in
theorem open_case {W : World} {base : Nat} {v : Value} {d : DataW H} {p : List MemPlace} (hv : Value.okWide Try.prog W .any base 42 v) (h : DataW.Trod enc Try.prog W 0 (fun _ => true) true 42 v d p) :
    ∃ a n c l ka kn kc ks xa xn xc xs, v = caseV a n c ka kn kc xa xn xc ∧ CaseOk W a n c l ka kn kc ks xa xn xc xs := by
  obtain ⟨v0, v1, v2, y0, y1, y2, n, rfl, _, _, h0, h1, h2⟩ := Go.Joins.open_agg3 Try.underlying42 (by kernel_rfl) (by kernel_rfl) hv h
  obtain ⟨a, n, c, l, rfl, g1, g2, g3, g4, g5, g6⟩ := open_setsC h0
  obtain ⟨ka, kn, kc, ks, rfl, k1, k2, k3, k4⟩ := open_bytesK Try.underlying32 Try.underlying5 h1
  obtain ⟨xa, xn, xc, xs, rfl, x1, x2, x3, x4⟩ := open_boolsK Try.underlying40 Try.underlying4 h2
  exact ⟨a, n, c, l, ka, kn, kc, ks, xa, xn, xc, xs, rfl, ⟨g1, ⟨g2, g3, g4⟩, g5, g6, k1, by omega, k4, x1, by omega, x4⟩⟩
set_option maxRecDepth 100000 in
theorem open_set {W : World} {base : Nat} {v : Value} {d : DataW H} {p : List MemPlace} (hv : Value.okWide Try.prog W .any base 44 v) (h : DataW.Trod enc Try.prog W 0 (fun _ => true) true 44 v d p) :
    ∃ s : St, v = .agg #[.int .i64 s.1, .int .i64 s.2] ∧ wfS s := by
  obtain ⟨v0, v1, y0, y1, n, rfl, _, _, h0, h1⟩ := Go.Joins.open_agg2 Try.underlying44 (by kernel_rfl) (by kernel_rfl) hv h
  obtain ⟨z0, e0, _, w0⟩ := DataW.trod_int Try.underlying3 h0
  obtain ⟨z1, e1, _, w1⟩ := DataW.trod_int Try.underlying3 h1
  injection e0 with e0
  injection e1 with e1
  subst e0 e1
  exact ⟨(z0, z1), rfl, w0, w1⟩
set_option maxRecDepth 100000 in
theorem open_rules {W : World} {base : Nat} {v : Value} {d : DataW H} {p : List MemPlace} (hv : Value.okWide Try.prog W .any base 55 v) (h : DataW.Trod enc Try.prog W 0 (fun _ => true) true 55 v d p) :
    ∃ (a : Option Addr) (n c : Nat) (rs : List RuleV), v = .slice a n c ∧ rs.length = n ∧ n ≤ c ∧ c ≤ maxLen ∧ Has W a (ruV rs) ∧ ∀ r ∈ rs, wfS r.s := by
  obtain ⟨a, n, c, us, rfl, hl, hn, hc, hA, hh, hx⟩ := open_rows Try.underlying55 hv h
  have key : ∀ us : List (List Value), (∀ x ∈ us, x.length = Try.prog.cellsOf 58 ∧ ∃ m y, DataW.trod enc Try.prog W 0 (fun _ => true) true m 58 x = some y) → ∃ rs : List RuleV, rs.length = us.length ∧ us.flatten = ruV rs ∧ ∀ r ∈ rs, wfS r.s := by
    intro us
    induction us with
    | nil => exact fun _ => ⟨[], rfl, rfl, fun z hz => by cases hz⟩
    | cons x us ih =>
      intro h
      obtain ⟨zs, q1, q2, q3⟩ := ih (fun y hy => h y (by simp [hy]))
      obtain ⟨hlx, m, y, hy⟩ := h x (by simp)
      obtain ⟨y0, y1, y2, y3, k, _, _, t0, t1, t2, t3⟩ := Go.Joins.trod_struct4 Try.underlying58 hy
      rw [show Try.prog.cellsOf 58 = 4 by kernel_rfl] at hlx
      have c3 : Try.prog.cellsOf 3 = 1 := by kernel_rfl
      have c4 : Try.prog.cellsOf 54 = 1 := by kernel_rfl
      simp only [c3, c4] at t0 t1 t2 t3
      obtain ⟨z0, e0, _, w0⟩ := DataW.trod_int Try.underlying3 t0
      obtain ⟨z1, e1, _, w1⟩ := DataW.trod_int Try.underlying3 t1
      obtain ⟨z2, e2, _, w2⟩ := DataW.trod_int Try.underlying54 t2
      obtain ⟨z3, e3, _, w3⟩ := DataW.trod_int Try.underlying54 t3
      have hxe : x = [.int .i64 z0, .int .i64 z1, .int .u32 z2, .int .u32 z3] := by
        match x, hlx with
        | [x0, x1, x2, x3], _ =>
          simp at e0 e1 e2 e3
          rw [e0, e1, e2, e3]
      exact ⟨⟨(z0, z1), z2, z3⟩ :: zs, by simp [q1], by rw [List.flatten_cons, hxe, q2]; rfl, fun z hz => by
        rcases List.mem_cons.1 hz with rfl | hz
        · exact ⟨w0, w1⟩
        · exact q3 z hz⟩
  obtain ⟨zs, q1, q2, q3⟩ := key us hx
  exact ⟨a, n, c, zs, rfl, q1.trans hl, hn, hc, q2 ▸ hh, q3⟩
end
open Go.RowKit Go.Lib
theorem big_any (a : Option Addr) (n c : Nat) (ka : Option Addr) (kn kc : Nat) (xa : Option Addr) (xn xc : Nat) (b : Bool) (w : World) (hb : (decide (100 < (n : Int)) || decide (40 < (kn : Int))) = b) :
    Calls Try.prog 15 #[caseV a n c ka kn kc xa xn xc] w fun e w' => e = .returned (.bool b) ∧ Below w.heap.size w w' := by
  have hAC := allocC
  have hAF := allocF
  cases h1 : decide (100 < (n : Int)) with
  | true =>
    rw [h1, Bool.true_or] at hb
    subst hb
    go_enter Try.func15, Try.ntmps15
    go_wp2_with fail
    go_ret
    exact ⟨rfl, blw⟩
  | false =>
    rw [h1, Bool.false_or] at hb
    subst hb
    go_enter Try.func15, Try.ntmps15
    go_wp2_with fail
    go_ret
    exact ⟨by first | rfl | simp, blw⟩
end Go.Proofs.Ytfnghinefbmlmaa
