
/- Package pick: Flags; the document's own answers of layers 8 and 9. Conditions: as each says. -/
import Derived.Test.YtfnghinefbmlmaaPickU
namespace Go.Proofs.Ytfnghinefbmlmaa
open Go.RowKit Go.Lib

theorem equalS (x y : St) (hx : wfS x) (hy : wfS y) (w : World) : (Op.equal 44 (.agg #[.int .i64 x.1, .int .i64 x.2]) (.agg #[.int .i64 y.1, .int .i64 y.2])).run Try.prog w = .ok (x == y) w := by
  obtain ⟨r, h1, h2⟩ := run_equal_deep (P := Try.prog) w (m := 2) (by omega) (k := 44) (by kernel_rfl) (by rw [Try.underlying44]) (keyS x hx) (keyS y hy)
  have : r = (x == y) := by
    rw [Bool.eq_iff_iff, h2, beq_iff_eq]
    exact ⟨fun h => kS_inj hx hy h, fun h => by rw [h]⟩
  rw [← this]
  exact h1
theorem eqS (x y : St) (hx : wfS x) (hy : wfS y) (w : World) : (binOp .eql 44 (.agg #[.int .i64 x.1, .int .i64 x.2]) (.agg #[.int .i64 y.1, .int .i64 y.2])).run Try.prog w = .ok (.bool (x == y)) w := by
  simp [binOp, equalS x y hx hy w, Result.andThen]
theorem neS (x y : St) (hx : wfS x) (hy : wfS y) (w : World) : (binOp .neq 44 (.agg #[.int .i64 x.1, .int .i64 x.2]) (.agg #[.int .i64 y.1, .int .i64 y.2])).run Try.prog w = .ok (.bool (!(x == y))) w := by
  simp [binOp, equalS x y hx hy w, Result.andThen]

/-- The first of a type decides. -/
def exR (fs : List FEnt) (n : Int) : Bool := match fs.find? (fun f => (f.ty : Int) == n) with
  | some f => f.ex
  | none => false
theorem exR_nil (n : Int) : exR [] n = false := rfl
theorem exR_cons (f : FEnt) (fs : List FEnt) (n : Int) : exR (f :: fs) n = if (f.ty : Int) == n then f.ex else exR fs n := by
  unfold exR
  rw [List.find?_cons]
  cases ((f.ty : Int) == n) <;> rfl
theorem exR_drop {fs : List FEnt} {k : Nat} {f : FEnt} (h : fs[k]? = some f) (n : Int) : exR (fs.drop k) n = if (f.ty : Int) == n then f.ex else exR (fs.drop (k + 1)) n := by
  obtain ⟨h1, rfl⟩ := List.getElem?_eq_some_iff.1 h
  rw [List.drop_eq_getElem_cons h1, exR_cons]
set_option maxHeartbeats 1000000 in
theorem excR_any (a : Option Addr) (n c : Nat) (fs : List FEnt) (kind : Int) (x : Bool) (w : World) (h : Has w a (fents fs)) (hl : fs.length = n) (hn : n ≤ 10000) (hx : exR fs kind = x) :
    Calls Try.prog 38 #[.slice a n c, .int .i64 kind] w fun e w' => e = .returned (.bool x) ∧ w = w' := by
  have HH := Lib.hid h
  have HL := Lib.hid hl
  have HX := Lib.hid hx
  clear h hl hx
  go_enter Try.func38, Try.ntmps38
  go_wp2_with fail
  go_loop [5] (fun i => ∃ k : Nat, k ≤ n ∧ i = .int .i64 (k : Nat) ∧ exR (fs.drop k) kind = x) (fun i => n - (intOf i).toNat)
  case atStart => exact ⟨0, Nat.zero_le _, rfl, by rw [List.drop_zero]; exact HX.out⟩
  case round =>
    obtain ⟨k, hk, rfl, hd⟩ := hrel
    by_cases hlt : k < n
    · obtain ⟨f, hf⟩ : ∃ f, fs[k]? = some f := ⟨_, List.getElem?_eq_getElem (by rw [HL.out]; exact hlt)⟩
      rw [exR_drop hf] at hd
      obtain ⟨b, o, ha, hbl, c0, c1, _, _⟩ := fent_cells HH.out hf
      subst ha
      clear hf
      cases he : ((f.ty : Int) == kind) with
      | true =>
        rw [he, if_pos rfl] at hd
        rw [hd] at c1
        clear hd
        go_wp2_with fail
        go_ret
        exact ⟨rfl, rfl⟩
      | false =>
        rw [he, if_neg (by decide)] at hd
        have HD := Lib.hid hd
        clear hd
        go_wp2_with fail
        go_round
        case rel => exact ⟨k + 1, hlt, by go_num, HD.out⟩
        case measure => simp [intOf]; omega
    · obtain rfl : n = k := by omega
      rw [List.drop_of_length_le (by rw [HL.out]; exact Nat.le_refl _), exR_nil] at hd
      subst hd
      go_wp2_with fail
      go_ret
      exact ⟨rfl, rfl⟩
theorem rightR_any (s : St) (w : World) : Calls Try.prog 21 #[.agg #[.int .i64 s.1, .int .i64 s.2]] w fun e w' => e = .returned (.bool (rightS s)) ∧ Below w.heap.size w w' := by
  have hAC := allocC
  have hAF := allocF
  obtain ⟨p, q⟩ := s
  have HE := Lib.hid (show rightS (p, q) = (decide (0 ≤ p) && decide (p ≤ 65535) && (decide (0 ≤ q) && decide (q ≤ 65535))) from rfl)
  generalize rightS (p, q) = r at *
  by_cases h1 : 0 ≤ p
  · have d1 : decide (0 ≤ p) = true := by simpa using h1
    by_cases h2 : p ≤ 65535
    · have d2 : decide (p ≤ 65535) = true := by simpa using h2
      by_cases h3 : 0 ≤ q
      · have d3 : decide (0 ≤ q) = true := by simpa using h3
        by_cases h4 : q ≤ 65535
        · have d4 : decide (q ≤ 65535) = true := by simpa using h4
          obtain rfl : r = true := by rw [HE.out, d1, d2, d3, d4]; rfl
          clear HE
          go_enter Try.func21, Try.ntmps21
          go_wp2_with fail
          go_ret
          exact ⟨rfl, blw⟩
        · have d4 : decide (q ≤ 65535) = false := by simpa using h4
          obtain rfl : r = false := by rw [HE.out, d1, d2, d3, d4]; rfl
          clear HE
          go_enter Try.func21, Try.ntmps21
          go_wp2_with fail
          go_ret
          exact ⟨rfl, blw⟩
      · have d3 : decide (0 ≤ q) = false := by simpa using h3
        obtain rfl : r = false := by rw [HE.out, d1, d2, d3]; rfl
        clear HE
        go_enter Try.func21, Try.ntmps21
        go_wp2_with fail
        go_ret
        exact ⟨rfl, blw⟩
    · have d2 : decide (p ≤ 65535) = false := by simpa using h2
      obtain rfl : r = false := by rw [HE.out, d1, d2]; rfl
      clear HE
      go_enter Try.func21, Try.ntmps21
      go_wp2_with fail
      go_ret
      exact ⟨rfl, blw⟩
  · have d1 : decide (0 ≤ p) = false := by simpa using h1
    obtain rfl : r = false := by rw [HE.out, d1]; rfl
    clear HE
    go_enter Try.func21, Try.ntmps21
    go_wp2_with fail
    go_ret
    exact ⟨rfl, blw⟩
theorem tdiv2_wf {q : Int} (h : wfI q) : wrap64 (q.tdiv 2) = q.tdiv 2 := by
  have hb := wfI_b h
  have : -9223372036854775808 ≤ q.tdiv 2 ∧ q.tdiv 2 ≤ 9223372036854775807 := by
    rcases Int.le_total 0 q with h0 | h0
    · rw [Int.tdiv_eq_ediv_of_nonneg h0]; omega
    · have e : q.tdiv 2 = -((-q).tdiv 2) := by rw [Int.neg_tdiv]; omega
      rw [e, Int.tdiv_eq_ediv_of_nonneg (by omega)]; omega
  unfold wrap64; omega
/-- Features, and what they say of types by the document's answer. -/
structure RfOk (w : World) (a : Option Addr) (n c : Nat) (fs : List FEnt) (ex : Int → Bool) : Prop where
  has : Has w a (fents fs)
  len : fs.length = n
  small : n ≤ 10000
  is : ∀ k, exR fs k = ex k
theorem RfOk.below {w w' : World} {a : Option Addr} {n c : Nat} {fs : List FEnt} {ex : Int → Bool} (h : RfOk w a n c fs ex) (hb : Below w.heap.size w w') : RfOk w' a n c fs ex := ⟨h.has.below hb, h.len, h.small, h.is⟩
theorem overR_any (x y : St) (a : Option Addr) (n c : Nat) (fs : List FEnt) (ex : Int → Bool) (w : World) (h : RfOk w a n c fs ex) (hx : wfS x) (hy : wfS y) :
    Calls Try.prog 24 #[.agg #[.int .i64 x.1, .int .i64 x.2], .agg #[.int .i64 y.1, .int .i64 y.2], .slice a n c] w fun e w' => e = .returned (.bool (overS ex x y)) ∧ Below w.heap.size w w' := by
  have hAC := allocC
  have hAF := allocF
  obtain ⟨p, q⟩ := x
  obtain ⟨s, t⟩ := y
  have hq := tdiv2_wf hx.2
  have ht := tdiv2_wf hy.2
  simp only at hq ht
  clear hx hy
  have HO := Lib.hid (show overS ex (p, q) (s, t) = ((p == s) && (ex p || (q.tdiv 2 == t.tdiv 2))) from rfl)
  generalize overS ex (p, q) (s, t) = r at *
  cases h1 : (p == s) with
  | false =>
    obtain rfl : r = false := by rw [HO.out, h1]; rfl
    clear HO h
    go_enter Try.func24, Try.ntmps24
    go_wp2_with fail
    go_ret
    exact ⟨rfl, blw⟩
  | true =>
    rw [h1, Bool.true_and] at HO
    have HX := Lib.hid (fun W (hW : Below w.heap.size w W) => excR_any a n c fs p (ex p) W (h.has.below hW) h.len h.small (h.is p))
    clear h
    generalize ex p = u at *
    cases u with
    | true =>
      obtain rfl : r = true := HO.out
      clear HO
      go_enter Try.func24, Try.ntmps24
      go_wp2_with (go_at_call 38; (with_reducible refine (HX.out _ (by exact blw)).mono ?_); rintro e w1 ⟨rfl, rfl⟩)
      go_ret
      exact ⟨rfl, blw⟩
    | false =>
      have HR := Lib.hid (show (q.tdiv 2 == t.tdiv 2) = r from HO.out.symm)
      clear HO
      go_enter Try.func24, Try.ntmps24
      go_wp2_with (go_at_call 38; (with_reducible refine (HX.out _ (by exact blw)).mono ?_); rintro e w1 ⟨rfl, rfl⟩)
      go_ret
      exact ⟨by rw [← HR.out]; rfl, blw⟩
end Go.Proofs.Ytfnghinefbmlmaa
