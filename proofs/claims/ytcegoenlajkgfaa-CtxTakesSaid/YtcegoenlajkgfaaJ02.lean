/- Joined from: Frame Ref1 Cut Ref2 Sf2 Put Zeros. -/
import Derived.Test.YtcegoenlajkgfaaJ01
import Derived.ProofKit
import Derived.OpenShut
import Derived.ShutString
import Derived.ChangeOld
import Derived.SizedLaws
import Derived.Lib.SmallJoins
import Derived.Deep.Slices
import Derived.Lib.AppendStr
section

/- The frame of every law's proof: where the Go text returns true and leaves all old blocks, the law's row holds. No condition beside the row's. -/
namespace Go.Proofs.Ytcegoenlajkgfaa
open Go.ChangeShapes Go.WideShapes Go.ChangeAt Go.RowKit
open Go.ChangeMaps (open_string shut_string)

theorem ownKnob_none : ownKnob Try.prog.godebug = none := by kernel_rfl
theorem laid_out : laidOutB Try.prog = true := by kernel_rfl

section
variable {H : Type} {enc : TypeId × Value → H}
theorem trod_length {P : Program} {w : World} {b : Nat} {sp : Nat → Bool} {hd : Bool} : ∀ {ts : List TypeId} {vs : List Value} {ds : List (DataW H)} {ps : List MemPlace}, DataW.TrodAll enc P w b sp hd ts vs ds ps → ds.length = ts.length
  | [], vs, ds, ps, h => by obtain ⟨_, rfl, _⟩ := trodAll_nil h; rfl
  | t :: ts, vs, ds, ps, h => by
    obtain ⟨v, vs', d, ds', p, q, rfl, rfl, rfl, _, h'⟩ := trodAll_cons h
    simp [trod_length h']
theorem trod_later {W W' : World} (hb : Below W.heap.size W W') : ∀ {ts : List TypeId} {vs : List Value} {ds : List (DataW H)} {ps : List MemPlace}, (∀ t ∈ ts, Try.prog.readableRec t = true ∧ t < Try.prog.types.size) →
    DataW.TrodAll enc Try.prog W 0 (fun _ => true) true ts vs ds ps → DataW.TrodAll enc Try.prog W' 0 (fun b => decide (b < W.heap.size)) true ts vs ds ps
  | [], vs, ds, ps, _, h => by obtain ⟨rfl, rfl, rfl⟩ := trodAll_nil h; exact trodAll_mk0
  | t :: ts, vs, ds, ps, hr, h => by
    obtain ⟨v, vs', d, ds', p, q, rfl, rfl, rfl, h0, h'⟩ := trodAll_cons h
    have k0 := h0
    have lt0 : ∀ x ∈ p, x.block < W.heap.size := by obtain ⟨m, hm⟩ := k0; exact DataW.trod_lt m _ _ _ hm
    exact trodAll_cons_mk (Below.trod laid_out (hr t (by simp)).1 (hr t (by simp)).2 k0 hb lt0) (trod_later hb (fun t ht => hr t (by simp [ht])) h')

/-- What a law's walk must show: of all arguments that are read. -/
def Walks (H : Type) (enc : TypeId × Value → H) (F : FuncId) (ts : List TypeId) : Prop :=
  ∀ (W : World) (base : Nat) (args : Array Value) (ds : List (DataW H)) (p : List MemPlace),
    (∀ (j : Nat) t v, ts[j]? = some t → args[j]? = some v → Value.okWide Try.prog W .any base t v) →
    DataW.TrodAll enc Try.prog W 0 (fun _ => true) true ts args.toList ds p →
    (DataW.weightsEach Try.prog ts ds).all (· ≤ reachBytes) = true →
    Calls Try.prog F args W fun e w' => e = .returned (.bool true) ∧ Below W.heap.size W w'

set_option maxRecDepth 100000 in
theorem lift_law {os : Os} {F : FuncId} {fn : Func} {s : ChangeSpec} {conds : List PathCond} (started : os.Started) (noInit : Try.checked.prog.inits.idxOf? F = none) (hfn : Try.checked.prog.funcs[F]? = some fn)
    (witness : ∃ (w : World) (tape : Tape) (i : Input), w.os = os ∧ (w.forCall tape i).Shaped Try.checked.prog ∧ i.vars = [] ∧ Input.okWide Try.checked.prog (w.forCall tape i) .any w.heap.size F i ∧
      s.pre6 enc Try.checked.prog fn conds false (w.forCall tape i).memory i.args ∧ ({} : Assume).holds Try.checked.prog (lone (Frame.enter Try.checked.prog F i.args .normal) [] (w.forCall tape i)))
    (hres : fn.resultTypes = #[4]) (hvars : s.vars = []) (hspec : ∀ ds : List (DataW H), ds.length = fn.params.size → s.fn H (ds ++ []) = { results := [.lit (.bool true)], args := ds })
    (hrd : ∀ t ∈ fn.params.toList, Try.prog.readableRec t = true ∧ t < Try.prog.types.size) (walk : Walks H enc F fn.params.toList) :
    ReturnsInHanded {} Try.checked os F .any (s.pre6 enc Try.checked.prog fn conds false) (s.post enc Try.checked.prog fn false true false false) := by
  refine returnsInHanded_of_change_sized (C := Try.checked) ownKnob_none started noInit hfn witness ?_
  intro W base args ds gs before hval hW hcnd hsz _
  have hW' := hW
  obtain ⟨p, q, hA, hV, rfl, hfz, hnd⟩ := hW
  rw [hvars] at hV
  obtain ⟨rfl, rfl⟩ := trodVars_none hV
  have hv : s.plain.varTypes Try.checked.prog = [] := by
    simp [ChangeSpec.plain, DataSpec.varTypes, hvars]
  rw [hv, List.append_nil, List.append_nil] at hsz
  have hlen : ds.length = fn.params.size := by simpa using trod_length hA
  have hval' : ∀ (j : Nat) t v, fn.params.toList[j]? = some t → args[j]? = some v → Value.okWide Try.prog W .any base t v := fun j t v ht hv => hval j t v (by rw [Array.getElem?_toList] at ht; exact ht) hv
  have hA' : DataW.TrodAll enc Try.prog W 0 (fun _ => true) true fn.params.toList args.toList ds p := hA
  have hsz' : (DataW.weightsEach Try.prog fn.params.toList ds).all (· ≤ reachBytes) = true := hsz
  refine (walk W base args ds p hval' hA' hsz').mono fun e W' ⟨he, bel⟩ => ?_
  subst he
  refine ⟨_, rfl, ds, [], _, [], p, [], hW', ?_, ?_, ?_, bel.frame _, fun h => by cases h⟩
  · rw [hspec ds hlen, hres]
    exact trodAll_mk1 (shut_bool Try.underlying4 _)
  · rw [hspec ds hlen]
    exact trod_later bel hrd hA
  · rw [hspec ds hlen, hvars]
    rfl

/-- What an argument of bytes is. -/
theorem open_bytes {P : Program} {W : World} {base : Nat} {t e : TypeId} {v : Value} {d : DataW H} {p : List MemPlace} (ht : P.underlying t = some (.slice e)) (he : P.underlying e = some (.int .u8)) (hC : P.cellsOf e = 1)
    (hv : Value.okWide P W .any base t v) (h : DataW.Trod enc P W 0 (fun _ => true) true t v d p) :
    ∃ a n c bs, v = .slice a n c ∧ Has W a (bytesV bs) ∧ bs.length = n ∧ n ≤ c ∧ c ≤ maxLen ∧ (a = none → c = 0) := by
  obtain ⟨a, n, c, rfl⟩ := okWide_slice ht hv
  obtain ⟨fuel, hf⟩ := h
  rcases open_ints ht he hC hf with ⟨hcs, _⟩ | ⟨x, l, c', zs, hcs, _, hl, hm, hz, _, hcell, hwz⟩
  · simp [Value.cells] at hcs
    obtain ⟨rfl, rfl, rfl⟩ := hcs
    exact ⟨none, 0, 0, [], rfl, Has.nil _ _, rfl, Nat.le_refl _, Nat.zero_le _, fun _ => rfl⟩
  · simp [Value.cells] at hcs
    obtain ⟨rfl, rfl, rfl⟩ := hcs
    simp only [if_true] at hz
    refine ⟨some x, n, c, (zs.take n).map fun z => UInt8.ofNat z.toNat, rfl, ?_, by simp; omega, hl, hm, fun h => by cases h⟩
    intro j u hu
    refine ⟨x, rfl, ?_⟩
    have hj : j < n := by
      rcases Nat.lt_or_ge j n with g | g
      · exact g
      · rw [List.getElem?_eq_none (by rw [bytesV_length]; simp; omega)] at hu; cases hu
    rw [hcell j (by omega), ← hu]
    have hw := hwz zs[j] (List.getElem_mem (by omega))
    have hb := bounds_u8 hw
    simp only [bytesV, List.map_map, List.getElem?_map, List.getElem?_take, if_pos hj, List.getElem?_eq_getElem (show j < zs.length by omega), Option.map_some, List.getD_eq_getElem?_getD, Option.getD_some, Function.comp_apply, Option.some.injEq, Value.int.injEq, true_and]
    simp only [UInt8.toNat_ofNat']
    omega

theorem flatten_get {s : Nat} : ∀ (us : List (List Value)) (j : Nat) (u : Value), (∀ x ∈ us, x.length = s) → us.flatten[j]? = some u → ∃ i k x, us[i]? = some x ∧ x[k]? = some u ∧ j = i * s + k ∧ k < s
  | [], j, u, _, h => by simp at h
  | x :: us, j, u, hs, h => by
    have hx := hs x (by simp)
    rw [List.flatten_cons, List.getElem?_append] at h
    split at h
    · rename_i hj
      exact ⟨0, j, x, rfl, h, by omega, by omega⟩
    · rename_i hj
      obtain ⟨i, k, y, h1, h2, h3, h4⟩ := flatten_get us (j - x.length) u (fun y hy => hs y (by simp [hy])) h
      refine ⟨i + 1, k, y, by simpa using h1, h2, ?_, h4⟩
      rw [Nat.succ_mul]; omega
theorem flatten_length {s : Nat} : ∀ (us : List (List Value)), (∀ x ∈ us, x.length = s) → us.flatten.length = us.length * s
  | [], _ => by simp
  | x :: us, h => by
    rw [List.flatten_cons, List.length_append, h x (by simp), flatten_length us fun y hy => h y (by simp [hy]), List.length_cons, Nat.succ_mul]; omega

/-- What an argument that is a slice is: rows of cells, one an element, each read as its type says. -/
theorem open_rows {P : Program} {W : World} {base : Nat} {t e : TypeId} {v : Value} {d : DataW H} {p : List MemPlace} (ht : P.underlying t = some (.slice e))
    (hv : Value.okWide P W .any base t v) (h : DataW.Trod enc P W 0 (fun _ => true) true t v d p) :
    ∃ (a : Option Addr) (n c : Nat) (us : List (List Value)), v = .slice a n c ∧ us.length = n ∧ n ≤ c ∧ c ≤ maxLen ∧ (a = none → c = 0) ∧ Has W a us.flatten ∧ ∀ x ∈ us, x.length = P.cellsOf e ∧ ∃ m y, DataW.trod enc P W 0 (fun _ => true) true m e x = some y := by
  obtain ⟨a, n, c, rfl⟩ := okWide_slice ht hv
  obtain ⟨fuel, hf⟩ := h
  rcases Deep.open_slice ht hf with ⟨hcs, _⟩ | ⟨x, l, c', m, k, D, Pl, hcs, _, hl, hm, hmm, _, hi⟩
  · simp [Value.cells] at hcs
    obtain ⟨rfl, rfl, rfl⟩ := hcs
    exact ⟨none, 0, 0, [], rfl, rfl, Nat.le_refl _, Nat.zero_le _, fun _ => rfl, Has.nil _ _, fun x hx => by cases hx⟩
  · simp [Value.cells] at hcs
    obtain ⟨rfl, rfl, rfl⟩ := hcs
    simp only [if_true] at hmm
    subst hmm
    have hlen : ∀ i (h : i < n), (hi i (by omega)).choose.length = P.cellsOf e := fun i h => (World.cells?_some (hi i (by omega)).choose_spec.1).2.1
    refine ⟨some x, n, _, (List.range n).attach.map fun i => (hi i.1 (by have := List.mem_range.1 i.2; omega)).choose, rfl, by simp, hl, hm, (fun h => by cases h), ?_, ?_⟩
    · intro j u hu
      obtain ⟨i, q, y, h1, h2, rfl, hq⟩ := flatten_get (s := P.cellsOf e) _ _ _ (by
        intro y hy
        simp only [List.mem_map] at hy
        obtain ⟨i, _, rfl⟩ := hy
        exact hlen i.1 (List.mem_range.1 i.2)) hu
      refine ⟨x, rfl, ?_⟩
      have hin : i < n := by
        rcases Nat.lt_or_ge i n with g | g
        · exact g
        · rw [List.getElem?_eq_none (by simpa using g)] at h1; cases h1
      have hy : y = (hi i (by omega)).choose := by
        simp only [List.getElem?_map, List.getElem?_attach] at h1
        simp [List.getElem?_range hin] at h1
        exact h1.symm
      have hs := World.cells?_some (hi i (by omega)).choose_spec.1
      have := hs.2.2 q hq
      rw [Deep.add_add] at this
      rw [this, ← hy, h2]
    · intro y hy
      simp only [List.mem_map] at hy
      obtain ⟨i, _, rfl⟩ := hy
      exact ⟨hlen i.1 (List.mem_range.1 i.2), _, _, (hi i.1 (by have := List.mem_range.1 i.2; omega)).choose_spec.2⟩

/-- What an argument that is an array of integers is. -/
theorem open_array {P : Program} {W : World} {base : Nat} {t e : TypeId} {k : IntKind} {n : Nat} {v : Value} {d : DataW H} {p : List MemPlace} (ht : P.underlying t = some (.array n e)) (he : P.underlying e = some (.int k)) (hC : P.cellsOf e = 1) (hCt : P.cellsOf t = n)
    (hv : Value.okWide P W .any base t v) (h : DataW.Trod enc P W 0 (fun _ => true) true t v d p) :
    ∃ zs : List Int, v = .agg (zs.map (Value.int k)).toArray ∧ zs.length = n ∧ ∀ z ∈ zs, (Lit.int k z).wf = true := by
  obtain ⟨cs, rfl, hsz⟩ : ∃ cs, v = .agg cs ∧ cs.size = P.cellsOf t := by
    simp only [Value.okWide, ht] at hv
    obtain ⟨cs, h1, h2, _⟩ := hv
    exact ⟨cs, h1, h2⟩
  obtain ⟨fuel, hf⟩ := h
  obtain ⟨xs, m, _, hx, hlen, hxl, hi⟩ := DataW.trod_array ht hf
  obtain ⟨l⟩ := cs
  simp only [Value.cells] at hlen hi
  have hcl : l.length = n := by simpa [hCt] using hsz
  have hz : ∀ i (h : i < n), ∃ z : Int, l[i]? = some (.int k z) ∧ (Lit.int k z).wf = true := by
    intro i h
    have := hi i h
    rw [hC, Nat.mul_one] at this
    obtain ⟨z, hz, _, hw⟩ := DataW.trod_int he (this.trans (List.getElem?_eq_getElem (by omega)))
    refine ⟨z, ?_, hw⟩
    have h2 : ((l.drop i).take 1)[0]? = some (.int k z) := by rw [hz]; rfl
    simpa [List.getElem?_take, List.getElem?_drop] using h2
  refine ⟨(List.range n).attach.map fun i => (hz i.1 (List.mem_range.1 i.2)).choose, ?_, by simp, ?_⟩
  · congr 2
    apply List.ext_getElem?
    intro i
    by_cases h : i < n
    · rw [(hz i h).choose_spec.1]
      simp [List.getElem?_map, List.getElem?_attach, List.getElem?_range h]
    · rw [List.getElem?_eq_none (by omega), List.getElem?_eq_none (by simp; omega)]
  · intro z h
    simp only [List.mem_map] at h
    obtain ⟨i, _, rfl⟩ := h
    exact (hz i.1 (List.mem_range.1 i.2)).choose_spec.2
/-- What an argument that is a number is. -/
theorem open_int {P : Program} {W : World} {base : Nat} {t : TypeId} {k : IntKind} {v : Value} {d : DataW H} {p : List MemPlace} (ht : P.underlying t = some (.int k))
    (hv : Value.okWide P W .any base t v) (h : DataW.Trod enc P W 0 (fun _ => true) true t v d p) : ∃ n : Int, v = .int k n ∧ (Lit.int k n).wf = true := by
  obtain ⟨n, rfl⟩ := okWide_int ht hv
  obtain ⟨fuel, hf⟩ := h
  obtain ⟨z, hz, _, hw⟩ := DataW.trod_int ht hf
  simp [Value.cells] at hz
  subst hz
  exact ⟨_, rfl, hw⟩
/-- What an argument that is a slice of integers is. -/
theorem open_nums {P : Program} {W : World} {base : Nat} {t e : TypeId} {k : IntKind} {v : Value} {d : DataW H} {p : List MemPlace} (ht : P.underlying t = some (.slice e)) (he : P.underlying e = some (.int k))
    (hv : Value.okWide P W .any base t v) (h : DataW.Trod enc P W 0 (fun _ => true) true t v d p) :
    ∃ (a : Option Addr) (n c : Nat) (zs : List Int), v = .slice a n c ∧ zs.length = n ∧ n ≤ c ∧ c ≤ maxLen ∧ (a = none → c = 0) ∧ Has W a (zs.map (Value.int k)) ∧ ∀ z ∈ zs, (Lit.int k z).wf = true := by
  obtain ⟨a, n, c, us, rfl, hl, hn, hc, hA, hh, hx⟩ := open_rows ht hv h
  have key : ∀ us : List (List Value), (∀ x ∈ us, ∃ m y, DataW.trod enc P W 0 (fun _ => true) true m e x = some y) → ∃ zs : List Int, zs.length = us.length ∧ us.flatten = zs.map (Value.int k) ∧ ∀ z ∈ zs, (Lit.int k z).wf = true := by
    intro us
    induction us with
    | nil => exact fun _ => ⟨[], rfl, rfl, fun z hz => by cases hz⟩
    | cons x us ih =>
      intro h
      obtain ⟨zs, h1, h2, h3⟩ := ih (fun y hy => h y (by simp [hy]))
      obtain ⟨m, y, hy⟩ := h x (by simp)
      obtain ⟨z, rfl, _, hw⟩ := DataW.trod_int he hy
      exact ⟨z :: zs, by simp [h1], by simp [h2], fun z' hz' => by
        rcases List.mem_cons.1 hz' with rfl | hz'
        · exact hw
        · exact h3 z' hz'⟩
  obtain ⟨zs, h1, h2, h3⟩ := key us (fun x hx' => (hx x hx').2)
  exact ⟨a, n, c, zs, rfl, h1.trans hl, hn, hc, hA, h2 ▸ hh, h3⟩
/-- Rows of cells behind a slice that lies in a cell. -/
theorem open_rows_cell {P : Program} {W : World} {t e : TypeId} {f : Nat} {v : Value} {y : DataW H × List MemPlace} (ht : P.underlying t = some (.slice e))
    (h : DataW.trod enc P W 0 (fun _ => true) true f t [v] = some y) :
    ∃ (a : Option Addr) (n c : Nat) (us : List (List Value)), v = .slice a n c ∧ us.length = n ∧ n ≤ c ∧ c ≤ maxLen ∧ (a = none → c = 0) ∧ Has W a us.flatten ∧ ∀ x ∈ us, x.length = P.cellsOf e ∧ ∃ m y, DataW.trod enc P W 0 (fun _ => true) true m e x = some y := by
  have hv : ∃ a n c, v = .slice a n c := by
    rcases Deep.open_slice ht h with ⟨hcs, _⟩ | ⟨x, l, c', m, k, D, Pl, hcs, _⟩
    · exact ⟨none, 0, 0, by simpa using hcs⟩
    · exact ⟨some x, l, c', by simpa using hcs⟩
  obtain ⟨a, n, c, rfl⟩ := hv
  rcases Deep.open_slice ht h with ⟨hcs, _⟩ | ⟨x, l, c', m, k, D, Pl, hcs, _, hl, hm, hmm, _, hi⟩
  · simp at hcs
    obtain ⟨rfl, rfl, rfl⟩ := hcs
    exact ⟨none, 0, 0, [], rfl, rfl, Nat.le_refl _, Nat.zero_le _, fun _ => rfl, Has.nil _ _, fun x hx => by cases hx⟩
  · simp at hcs
    obtain ⟨rfl, rfl, rfl⟩ := hcs
    simp only [if_true] at hmm
    subst hmm
    have hlen : ∀ i (h : i < n), (hi i (by omega)).choose.length = P.cellsOf e := fun i h => (World.cells?_some (hi i (by omega)).choose_spec.1).2.1
    refine ⟨some x, n, _, (List.range n).attach.map fun i => (hi i.1 (by have := List.mem_range.1 i.2; omega)).choose, rfl, by simp, hl, hm, (fun h => by cases h), ?_, ?_⟩
    · intro j u hu
      obtain ⟨i, q, y, h1, h2, rfl, hq⟩ := flatten_get (s := P.cellsOf e) _ _ _ (by
        intro y hy
        simp only [List.mem_map] at hy
        obtain ⟨i, _, rfl⟩ := hy
        exact hlen i.1 (List.mem_range.1 i.2)) hu
      refine ⟨x, rfl, ?_⟩
      have hin : i < n := by
        rcases Nat.lt_or_ge i n with g | g
        · exact g
        · rw [List.getElem?_eq_none (by simpa using g)] at h1; cases h1
      have hy : y = (hi i (by omega)).choose := by
        simp only [List.getElem?_map, List.getElem?_attach] at h1
        simp [List.getElem?_range hin] at h1
        exact h1.symm
      have hs := World.cells?_some (hi i (by omega)).choose_spec.1
      have := hs.2.2 q hq
      rw [Deep.add_add] at this
      rw [this, ← hy, h2]
    · intro y hy
      simp only [List.mem_map] at hy
      obtain ⟨i, _, rfl⟩ := hy
      exact ⟨hlen i.1 (List.mem_range.1 i.2), _, _, (hi i.1 (by have := List.mem_range.1 i.2; omega)).choose_spec.2⟩
end
theorem wf_u8 {n : Int} (h : (Lit.int .u8 n).wf = true) : ∃ k : Nat, n = (k : Nat) ∧ k ≤ 255 := by
  simp [Lit.wf, IntKind.min, IntKind.max, IntKind.signed, IntKind.bits] at h
  exact ⟨n.toNat, by omega, by omega⟩
theorem wf_u16 {n : Int} (h : (Lit.int .u16 n).wf = true) : ∃ k : Nat, n = (k : Nat) ∧ k ≤ 65535 := by
  simp [Lit.wf, IntKind.min, IntKind.max, IntKind.signed, IntKind.bits] at h
  exact ⟨n.toNat, by omega, by omega⟩
theorem wf_u32 {n : Int} (h : (Lit.int .u32 n).wf = true) : ∃ k : Nat, n = (k : Nat) ∧ k ≤ 4294967295 := by
  simp [Lit.wf, IntKind.min, IntKind.max, IntKind.signed, IntKind.bits] at h
  exact ⟨n.toNat, by omega, by omega⟩
theorem wf_i64 {n : Int} (h : (Lit.int .i64 n).wf = true) : -9223372036854775808 ≤ n ∧ n ≤ 9223372036854775807 := by
  simp [Lit.wf, IntKind.min, IntKind.max, IntKind.signed, IntKind.bits] at h
  omega
end Go.Proofs.Ytcegoenlajkgfaa
end
section

/- Contracts of the reference of layer 1: In, U, S16, S32, Rows. Conditions: sizes as the law hands them in. -/
namespace Go.Proofs.Ytcegoenlajkgfaa
open Go.RowKit

set_option maxRecDepth 100000 in
set_option maxHeartbeats 800000 in
theorem in_any (n : Nat) (k m : Int) (w : World) (hn : n ≤ maxLen) (hk : -9223372036854775808 ≤ k ∧ k ≤ 9223372036854775807) (hm : -9223372036854775808 ≤ m ∧ m ≤ 9223372036854775807) :
    Calls Try.prog 70 #[.int .i64 n, .int .i64 k, .int .i64 m] w fun e w' => e = .returned (.bool (decide (0 ≤ k ∧ 0 ≤ m ∧ k ≤ n ∧ m ≤ n - k))) ∧ w = w' := by
  unfold maxLen at hn
  obtain ⟨hk1, hk2⟩ := hk
  obtain ⟨hm1, hm2⟩ := hm
  obtain ⟨B, hB⟩ : ∃ B : Bool, B = decide (0 ≤ k ∧ 0 ≤ m ∧ k ≤ n ∧ m ≤ n - k) := ⟨_, rfl⟩
  rw [← hB]
  have HB := Lib.hid hB
  clear hB
  by_cases h1 : 0 ≤ k
  · by_cases h2 : 0 ≤ m
    · by_cases h3 : k ≤ n
      · go_enter Try.func70, Try.ntmps70
        go_wp2
        go_ret
        refine ⟨?_, rfl⟩
        rw [HB.out]
        have : decide (m ≤ (n : Int) - k) = decide (0 ≤ k ∧ 0 ≤ m ∧ k ≤ n ∧ m ≤ n - k) := by rw [decide_eq_decide]; omega
        rw [← this]; rfl
      · have hb : B = false := by rw [HB.out]; simp; omega
        subst hb
        go_enter Try.func70, Try.ntmps70
        go_wp2
        go_ret
        exact ⟨rfl, rfl⟩
    · have hb : B = false := by rw [HB.out]; simp; omega
      subst hb
      go_enter Try.func70, Try.ntmps70
      go_wp2
      go_ret
      exact ⟨rfl, rfl⟩
  · have hb : B = false := by rw [HB.out]; simp; omega
    subst hb
    go_enter Try.func70, Try.ntmps70
    go_wp2
    go_ret
    exact ⟨rfl, rfl⟩

theorem num_lt (bs : List UInt8) (k : Nat) : ∀ i, num bs k i < 256 ^ i
  | 0 => by simp [num]
  | i + 1 => by
    have := num_lt bs k i
    have hb := byte_le (bs.getD (k + i) 0)
    simp only [num, Nat.pow_succ]; omega

def URel (bs : List UInt8) (k m : Nat) (x i : Value) : Prop := ∃ j : Nat, j ≤ m ∧ i = .int .i64 j ∧ x = .int .i64 (num bs k j : Nat)

set_option maxRecDepth 100000 in
set_option maxHeartbeats 800000 in
theorem u_in (a : Option Addr) (n c k m : Nat) (bs : List UInt8) (w : World) (h : Has w a (bytesV bs)) (hl : bs.length = n) (hk : k + m ≤ n) (hm : m ≤ 4) (hn : n ≤ maxLen) :
    Calls Try.prog 43 #[.slice a n c, .int .i64 k, .int .i64 m] w fun e w' => e = .returned (.int .i64 (num bs k m : Nat)) ∧ w = w' := by
  have hin := in_any n k m
  have hd : decide ((0 : Int) ≤ k ∧ (0 : Int) ≤ m ∧ (k : Int) ≤ n ∧ (m : Int) ≤ n - k) = true := by simp; omega
  rw [hd] at hin
  have HI := Lib.hid hin
  have HH := Lib.hid h
  have HL := Lib.hid hl
  have hn' := hn
  unfold maxLen at hn
  clear hin hd h hl
  go_enter Try.func43, Try.ntmps43
  go_wp2_with (first | (go_at_call 70; refine (HI.out _ hn' (by omega) (by omega)).mono ?_; rintro e w_ ⟨rfl, rfl⟩))
  go_loop [7, 8] (URel bs k m) (fun _ i => m - (Go.RowKit.intOf i).toNat)
  case atStart => exact ⟨0, Nat.zero_le _, rfl, rfl⟩
  case round =>
    obtain ⟨j, hj, rfl, rfl⟩ := hrel
    by_cases hlt : j < m
    · obtain ⟨b, o, ha, hb, hg⟩ := HH.out.get (by rw [bytesV_length, HL.out]; omega)
      have hc := hg (k + j) _ (bytesV_get bs (k + j) (by rw [HL.out]; omega))
      have hn1 : num bs k (j + 1) = 256 * num bs k j + (bs.getD (k + j) 0).toNat := rfl
      have HN := Lib.hid hn1
      have hx : num bs k j ≤ 16777215 := by
        have := num_lt bs k j
        have h2 : 256 ^ j ≤ 256 ^ 3 := Nat.pow_le_pow_right (by omega) (by omega)
        omega
      have hby := byte_le (bs.getD (k + j) 0)
      generalize (bs.getD (k + j) 0).toNat = y at *
      generalize num bs k j = x at *
      clear hn1 hg
      subst ha
      go_wp2
      go_round
      case rel => exact ⟨j + 1, by omega, by go_num, by rw [HN.out]; go_num⟩
      case measure => simp [Go.RowKit.intOf]; omega
    · have : j = m := by omega
      subst this
      go_wp2
      go_ret
      exact ⟨rfl, rfl⟩

set_option maxHeartbeats 400000 in
theorem u_out (a : Option Addr) (n c m : Nat) (k : Int) (w : World) (hk : ¬ (0 ≤ k ∧ k + m ≤ n)) (hk' : -9223372036854775808 ≤ k ∧ k ≤ 9223372036854775807) (hm : m ≤ 4) (hn : n ≤ maxLen) :
    Calls Try.prog 43 #[.slice a n c, .int .i64 k, .int .i64 m] w fun e w' => e = .returned (.int .i64 (-1)) ∧ w = w' := by
  have hin := in_any n k m
  have hd : decide ((0 : Int) ≤ k ∧ (0 : Int) ≤ m ∧ k ≤ n ∧ (m : Int) ≤ n - k) = false := by simp; omega
  rw [hd] at hin
  have HI := Lib.hid hin
  have HK := Lib.hid hk'
  have hn' := hn
  unfold maxLen at hn
  clear hin hd hk hk'
  go_enter Try.func43, Try.ntmps43
  go_wp2_with (first | (go_at_call 70; refine (HI.out _ hn' HK.out (by omega)).mono ?_; rintro e w_ ⟨rfl, rfl⟩))
  go_ret
  exact ⟨rfl, rfl⟩
end Go.Proofs.Ytcegoenlajkgfaa
end
section

/- Contracts of the law's 'cut': a piece of bytes, cut three ways, or that it was thrown. Conditions: the slice's, and that the kind is one of three. -/
namespace Go.Proofs.Ytcegoenlajkgfaa
open Go.RowKit

/-- Is there such a piece? -/
def fitK (n : Nat) (kind : Nat) (k m s : Int) : Prop := match kind with
  | 0 => 0 ≤ k ∧ 0 ≤ m ∧ k ≤ n ∧ m ≤ n - k
  | 1 => 0 ≤ k ∧ k ≤ n
  | _ => 0 ≤ k ∧ k ≤ n ∧ 0 ≤ m ∧ 0 ≤ s ∧ (s = 0 ∨ m.toNat ≤ (n - k.toNat) / s.toNat)
/-- How many bytes it has. -/
def lenK (n : Nat) (kind : Nat) (k m s : Int) : Nat := match kind with
  | 0 => m.toNat
  | 1 => n - k.toNat
  | _ => m.toNat * s.toNat
theorem lenK_le {n kind : Nat} {k m s : Int} (h : fitK n kind k m s) : 0 ≤ k ∧ k.toNat + lenK n kind k m s ≤ n := by
  unfold fitK at h
  unfold lenK
  match kind with
  | 0 => simp only at h ⊢; omega
  | 1 => simp only at h ⊢; omega
  | kind + 2 =>
    simp only at h ⊢
    obtain ⟨h1, h2, h3, h4, h5⟩ := h
    have : m.toNat * s.toNat ≤ n - k.toNat := by
      rcases h5 with rfl | h
      · simp
      · exact Nat.le_trans (Nat.mul_le_mul_right _ h) (Nat.div_mul_le_self _ _)
    omega

/-- How a function that is tried leaves the cells of bytes and of their number. -/
def CutR (W : World) (g4 g5 : Nat) (bs : List UInt8) (ok : Bool) (w' : World) : Prop :=
  (ok = true ∧ ∃ W1 a c, Below W.heap.size W W1 ∧ W1.ownsRow W.heap.size 5 1 (.slice a bs.length c) bs.length (bytesV bs) ∧ bs.length ≤ c ∧ c ≤ maxLen ∧ (a = none → c = 0) ∧ w' = (W1.setCell ⟨g4, 0, none⟩ (.slice a bs.length c)).setCell ⟨g5, 0, none⟩ (.int .i64 bs.length)) ∨ (ok = false ∧ Below W.heap.size W w')

end Go.Proofs.Ytcegoenlajkgfaa
end
section

/- Contract of the reference's Rows. Conditions: sizes as the law hands them in. -/
namespace Go.Proofs.Ytcegoenlajkgfaa
open Go.RowKit

set_option maxRecDepth 100000 in
set_option maxHeartbeats 800000 in
theorem rref_any (n : Nat) (k m s : Int) (B : Bool) (hB : B = true ↔ fitK n 2 k m s) (w : World) (hn : n ≤ maxLen) (hk : -9223372036854775808 ≤ k ∧ k ≤ 9223372036854775807) (hm : -9223372036854775808 ≤ m ∧ m ≤ 9223372036854775807) (hs : -9223372036854775808 ≤ s ∧ s ≤ 9223372036854775807) :
    Calls Try.prog 68 #[.int .i64 n, .int .i64 k, .int .i64 m, .int .i64 s] w fun e w' => e = .returned (.bool B) ∧ w = w' := by
  unfold maxLen at hn
  obtain ⟨hk1, hk2⟩ := hk
  obtain ⟨hm1, hm2⟩ := hm
  obtain ⟨hs1, hs2⟩ := hs
  simp only [fitK] at hB
  have bad : ¬ (0 ≤ k ∧ k ≤ n ∧ 0 ≤ m ∧ 0 ≤ s) → B = false := by
    intro h
    cases B with
    | false => rfl
    | true => exact absurd ((hB.1 rfl)) (fun g => h ⟨g.1, g.2.1, g.2.2.1, g.2.2.2.1⟩)
  by_cases h1 : 0 ≤ k
  · by_cases h2 : 0 ≤ m
    · by_cases h3 : 0 ≤ s
      · by_cases h4 : k ≤ n
        · by_cases h5 : s = 0
          · have hb : B = true := hB.2 ⟨h1, h4, h2, h3, .inl h5⟩
            subst hb
            subst h5
            clear hB bad
            go_enter Try.func68, Try.ntmps68
            go_wp2
            go_ret
            exact ⟨rfl, rfl⟩
          · obtain ⟨j, rfl⟩ : ∃ j : Nat, k = j := ⟨k.toNat, by omega⟩
            obtain ⟨i, rfl⟩ : ∃ i : Nat, m = i := ⟨m.toNat, by omega⟩
            obtain ⟨t, rfl⟩ : ∃ t : Nat, s = t := ⟨s.toNat, by omega⟩
            simp only [Int.toNat_natCast] at hB
            have hq : (((n : Int) - (j : Int)) / (t : Int)) = (((n - j) / t : Nat) : Int) := by
              rw [← Int.ofNat_sub (by omega)]; exact (Int.natCast_ediv _ _).symm
            have ht : ((t : Int) == 0) = false := by simp; omega
            by_cases h6 : i ≤ (n - j) / t
            · have hb : B = true := hB.2 ⟨h1, h4, h2, h3, .inr h6⟩
              subst hb
              have HQ := Lib.hid (show ((t : Int) == 0 || decide ((i : Int) ≤ ((n : Int) - (j : Int)) / (t : Int))) = true by
                rw [hq]
                generalize (n - j) / t = q at *
                have : decide ((i : Int) ≤ (q : Int)) = true := by simp; omega
                rw [this, Bool.or_true])
              clear hB bad h6 hq ht
              go_enter Try.func68, Try.ntmps68
              go_wp2
              go_ret
              exact ⟨by rw [HQ.out]; rfl, rfl⟩
            · have hb : B = false := by
                cases B with
                | false => rfl
                | true =>
                  rcases (hB.1 rfl).2.2.2.2 with h | h
                  · exact absurd h h5
                  · exact absurd h h6
              subst hb
              have HQ := Lib.hid (show ((t : Int) == 0 || decide ((i : Int) ≤ ((n : Int) - (j : Int)) / (t : Int))) = false by
                rw [hq, ht]
                generalize (n - j) / t = q at *
                have : decide ((i : Int) ≤ (q : Int)) = false := by simp; omega
                rw [this]; rfl)
              clear hB bad h6 hq ht
              go_enter Try.func68, Try.ntmps68
              go_wp2
              go_ret
              exact ⟨by rw [HQ.out]; rfl, rfl⟩
        · obtain rfl := bad (fun h => h4 h.2.1)
          clear hB bad
          go_enter Try.func68, Try.ntmps68
          go_wp2
          go_ret
          exact ⟨rfl, rfl⟩
      · obtain rfl := bad (fun h => h3 h.2.2.2)
        clear hB bad
        go_enter Try.func68, Try.ntmps68
        go_wp2
        go_ret
        exact ⟨rfl, rfl⟩
    · obtain rfl := bad (fun h => h2 h.2.2.1)
      clear hB bad
      go_enter Try.func68, Try.ntmps68
      go_wp2
      go_ret
      exact ⟨rfl, rfl⟩
  · obtain rfl := bad (fun h => h1 h.1)
    clear hB bad
    go_enter Try.func68, Try.ntmps68
    go_wp2
    go_ret
    exact ⟨rfl, rfl⟩
end Go.Proofs.Ytcegoenlajkgfaa
end
section

/- Contracts of package sfnt's small functions: lack, checksum, put32, put16, header. Conditions: sizes. Contracts of package sfnt's put32 and put16: numbers behind a slice of the call's own. Conditions: sizes; the numbers' own block. -/
namespace Go.Proofs.Ytcegoenlajkgfaa
open Go.RowKit

/-- How many bytes lack to a multiple of four. -/
def lackN (n : Nat) : Nat := (4 - n % 4) % 4

/-- The sum of the first numbers of four bytes, byte by byte. -/
def cks (bs : List UInt8) : Nat → Nat
  | 0 => 0
  | k + 1 => (cks bs k + (bs.getD k 0).toNat * 2 ^ (24 - 8 * (k % 4))) % 4294967296
theorem cks_lt (bs : List UInt8) (k : Nat) : cks bs k < 4294967296 := by
  cases k with
  | zero => simp [cks]
  | succ k => simp only [cks]; omega
def CkRel (bs : List UInt8) (n : Nat) (i z : Value) : Prop := ∃ k : Nat, k ≤ n ∧ i = .int .i64 k ∧ z = .int .u32 (cks bs k : Nat)
theorem byte_at {w : World} {a : Option Addr} {bs : List UInt8} (h : Has w a (bytesV bs)) {k : Nat} (hk : k < bs.length) : ∃ g o, a = some ⟨g, o, none⟩ ∧ g < w.heap.size ∧ w.cell? ⟨g, o + k, none⟩ = some (.int .u8 (bs.getD k 0).toNat) := by
  obtain ⟨g, o, ha, hg, hx⟩ := h.get (by rw [bytesV_length]; omega)
  exact ⟨g, o, ha, hg, hx k _ (bytesV_get _ _ hk)⟩

def be4 (z : Nat) : List UInt8 := [UInt8.ofNat (z / 16777216), UInt8.ofNat (z / 65536), UInt8.ofNat (z / 256), UInt8.ofNat z]
def be2 (z : Nat) : List UInt8 := [UInt8.ofNat (z / 256), UInt8.ofNat z]
/-- A row of bytes of the call's own isn't a block of another kind. -/
theorem own_ne {w : World} {base n : Nat} {v : Value} {xs : List Value} (h : w.ownsRow base 5 1 v n xs) {g : Nat} {cs : Array Value} {t : Nat} {fz : Nat × Nat} (hg : w.heap[g]? = some (.cells cs t fz)) (ht : t ≠ 5) : some g ≠ v.ownBlock := by
  rcases h.2 with ⟨rfl, _⟩ | ⟨g', cap, cur, rfl, _, hh, _⟩
  · simp [Value.ownBlock]
  · simp only [Value.ownBlock, ne_eq, Option.some.injEq]
    rintro rfl
    rw [hg] at hh
    injection hh with hh
    injection hh with _ h2 _
    exact ht h2

theorem be4V (z : Nat) (h : z < 4294967296) : bytesV (be4 z) = [.int .u8 ((z : Int) / 16777216), .int .u8 ((z : Int) / 65536 % 256), .int .u8 ((z : Int) / 256 % 256), .int .u8 ((z : Int) % 256)] := by
  simp only [bytesV, be4, List.map_cons, List.map_nil, UInt8.toNat_ofNat', List.cons.injEq, Value.int.injEq, true_and, and_true]
  refine ⟨?_, ?_, ?_, ?_⟩ <;> omega
theorem be2V (z : Nat) (h : z < 65536) : bytesV (be2 z) = [.int .u8 ((z : Int) / 256), .int .u8 ((z : Int) % 256)] := by
  simp only [bytesV, be2, List.map_cons, List.map_nil, UInt8.toNat_ofNat', List.cons.injEq, Value.int.injEq, true_and, and_true]
  refine ⟨?_, ?_⟩ <;> omega
theorem bytesV_append (xs ys : List UInt8) : bytesV (xs ++ ys) = bytesV xs ++ bytesV ys := by simp [bytesV]
theorem take_flat (ls : List Nat) (f : Nat → List UInt8) (k z : Nat) (h : ls[k]? = some z) : (ls.take (k + 1)).flatMap f = (ls.take k).flatMap f ++ f z := by
  rw [List.take_add_one, h]
  simp
/-- All blocks that hold no bytes are as they were. -/
def Kept (w w' : World) : Prop := w.heap.size ≤ w'.heap.size ∧ ∀ (g : Nat) (cs : Array Value) (t : Nat) (fz : Nat × Nat), w.heap[g]? = some (.cells cs t fz) → t ≠ 5 → w'.heap[g]? = w.heap[g]?
theorem Kept.refl (w : World) : Kept w w := ⟨Nat.le_refl _, fun _ _ _ _ _ _ => rfl⟩
theorem Kept.trans {a b c : World} (h : Kept a b) (k : Kept b c) : Kept a c := ⟨Nat.le_trans h.1 k.1, fun g cs t fz hg ht => (k.2 g cs t fz ((h.2 g cs t fz hg ht).trans hg) ht).trans (h.2 g cs t fz hg ht)⟩
theorem Kept.below {w w' : World} (h : Below w.heap.size w w') : Kept w w' := ⟨h.size, fun g _ _ _ hg _ => h.block g (Array.getElem?_eq_some_iff.1 hg).1⟩
theorem Kept.grown {w w' : World} {base n : Nat} {v : Value} {xs : List Value} (h : w.ownsRow base 5 1 v n xs) (hg : w.grownBy w' v.ownBlock) : Kept w w' :=
  ⟨hg.size, fun g _ _ _ h1 ht => hg.block g (Array.getElem?_eq_some_iff.1 h1).1 (own_ne h h1 ht)⟩
theorem Kept.cell {w w' : World} (h : Kept w w') {g : Nat} {cs : Array Value} {t : Nat} {fz : Nat × Nat} (hg : w.heap[g]? = some (.cells cs t fz)) (ht : t ≠ 5) (o : Nat) : w'.cell? ⟨g, o, none⟩ = cs[o]? := by
  rw [World.cell?_of_block (w := w) (by exact h.2 g cs t fz hg ht)]
  simp [World.cell?, hg]
def PutRel (w : World) (base n : Nat) (xs : List UInt8) (ls : List Nat) (gl : Nat) (f : Nat → List UInt8) (sz : Nat) (v i : Value) (wr : World) : Prop :=
  ∃ k a c, k ≤ ls.length ∧ i = .int .i64 (k : Nat) ∧ v = .slice a (n + sz * k) c ∧ wr.ownsRow base 5 1 v (n + sz * k) (bytesV (xs ++ (ls.take k).flatMap f)) ∧ (a = none → c = 0) ∧ c ≤ maxLen ∧ n + sz * k ≤ c ∧ Below base w wr ∧ Kept w wr

end Go.Proofs.Ytcegoenlajkgfaa
end
section

/- Contracts of the document's Put: a number's bytes behind others. Conditions: a slice of the call's own; a number from 0 on. A class of worlds: all blocks that hold no bytes are as they were. -/
namespace Go.Proofs.Ytcegoenlajkgfaa
open Go.RowKit

def beN : Nat → Nat → List UInt8
  | 0, _ => []
  | s + 1, z => UInt8.ofNat (z / 256 ^ s) :: beN s z
theorem beN2 (z : Nat) : beN 2 z = be2 z := by simp [beN, be2]
theorem beN4 (z : Nat) : beN 4 z = be4 z := by simp [beN, be4]
theorem beN_length (s z : Nat) : (beN s z).length = s := by induction s with | zero => rfl | succ s ih => simp [beN, ih]

def PutR (W : World) (base n : Nat) (xs : List UInt8) (z size : Nat) (b i : Value) (wr : World) : Prop :=
  ∃ s P a c, s ≤ size ∧ P ++ beN s z = beN size z ∧ P.length + s = size ∧ i = .int .i64 ((s : Int) - 1) ∧ b = .slice a (n + P.length) c ∧ wr.ownsRow base 5 1 b (n + P.length) (bytesV (xs ++ P)) ∧ n + P.length ≤ c ∧ c ≤ maxLen ∧ (a = none → c = 0) ∧ Below base W wr ∧ Kept W wr
set_option maxRecDepth 100000 in
set_option maxHeartbeats 1600000 in
theorem put_any (base : Nat) (a : Option Addr) (n c z size : Nat) (xs : List UInt8) (w : World) (hown : w.ownsRow base 5 1 (.slice a n c) n (bytesV xs)) (hbase : base ≤ w.heap.size) (hz : z < 9223372036854775808) (hn : n ≤ 1000000000) (hs : size ≤ 8) :
    Calls Try.prog 39 #[.slice a n c, .int .i64 z, .int .i64 size] w fun e w' => ∃ a' c', e = .returned (.slice a' (n + size) c') ∧ w'.ownsRow base 5 1 (.slice a' (n + size) c') (n + size) (bytesV (xs ++ beN size z)) ∧ n + size ≤ c' ∧ c' ≤ maxLen ∧ (a' = none → c' = 0) ∧ Below base w w' ∧ Kept w w' := by
  obtain ⟨_, _, he, k1, k2, k3⟩ := owns_slice hown
  cases he
  have HO := Lib.hid hown
  have HA := Lib.hid k3
  clear hown k3
  go_enter Try.func39, Try.ntmps39
  go_wp2_with fail
  go_loopw [0, 7] (PutR w base n xs z size) (fun _ i _ => ((Go.RowKit.intOf i) + 1).toNat)
  case atStart => exact ⟨size, [], a, c, Nat.le_refl _, rfl, by simp, by first | rfl | go_num, rfl, by simpa using HO.out, by simpa using k1, k2, HA.out, Below.refl _ _, Kept.refl _⟩
  case round =>
    obtain ⟨s, P, a1, c1, hss, hP, hPl, rfl, rfl, hox, k11, k12, k13, hbr, hkp⟩ := hrel
    have HKP := Lib.hid hkp
    have hwz := hkp.1
    clear hkp
    have HX := Lib.hid hox
    have HA1 := Lib.hid k13
    have HP := Lib.hid hP
    have HPL := Lib.hid hPl
    have HB := Lib.hid hbr
    clear hox k13 hP hPl hbr
    rcases s with _ | s
    · go_wp2
      go_ret
      have e0 : P = beN size z := by have := HP.out; simpa [beN] using this
      have hpl : P.length = size := by have := HPL.out; omega
      rw [hpl] at HX k11
      exact ⟨a1, c1, by rw [hpl]; rfl, by rw [← e0]; exact HX.out, k11, k12, HA1.out, HB.out, HKP.out⟩
    · have e1 : (((s + 1 : Nat) : Int) - 1) = (s : Int) := by omega
      rw [e1]
      go_wp2_with fail
      go_loopw [8, 9] (fun k j W => ∃ m : Nat, m ≤ s ∧ j = .int .i64 (m : Nat) ∧ k = .int .i64 ((z / 256 ^ m : Nat) : Int) ∧ W = wr) (fun _ j _ => s - (Go.RowKit.intOf j).toNat)
      case atStart => exact ⟨0, Nat.zero_le _, rfl, by simp, by first | rfl | trivial⟩
      case round =>
        obtain ⟨m, hm, rfl, rfl, rfl⟩ := hrel
        have hle : z / 256 ^ m ≤ z := Nat.div_le_self _ _
        by_cases hlt : m < s
        · have e2 : z / 256 ^ (m + 1) = z / 256 ^ m / 256 := by rw [Nat.pow_succ, Nat.div_div_eq_div_mul]
          have E2 := Lib.hid e2
          clear e2
          generalize z / 256 ^ m = q at *
          go_wp2
          go_roundw
          case rel => exact ⟨m + 1, by omega, by go_num, by rw [E2.out]; go_num, by first | rfl | trivial⟩
          case measure => first | (simp [Go.RowKit.intOf]; done) | (simp [Go.RowKit.intOf]; omega)
        · obtain rfl : m = s := by omega
          have e3 : bytesV [UInt8.ofNat (z / 256 ^ m)] = [.int .u8 ((z / 256 ^ m : Nat) % 256 : Int)] := by simp [bytesV, UInt8.toNat_ofNat']
          have E3 := Lib.hid e3
          have hbe : beN (m + 1) z = UInt8.ofNat (z / 256 ^ m) :: beN m z := rfl
          have HBE := Lib.hid hbe
          clear e3 hbe
          generalize z / 256 ^ m = q at *
          have hpm : P.length + (m + 1) = size := HPL.out
          go_wp2_with (at_builtin; refine wpApp rfl _ _ 22 rfl base 5 (.int .u8 0) 1 1 Try.underlying22 u8_info rfl (by decide) _ (n + P.length) (bytesV (xs ++ P)) rfl (owns_below HX.out (balloc (brefl wr) _) (Nat.le_refl _)) (some ⟨wr.heap.size, 0, none⟩) 1 1 (bytesV [UInt8.ofNat q]) rfl rfl (by rw [E3.out]; exact has_alloc _ _ _) (fun h => by cases h) (bytesV_one _) (by unfold maxLen; omega) (by omega) (by simp; omega) ?_; intro a6 c6 w6 hown6 k61 k62 k63 hb6 hg6; have HO6 := Lib.hid hown6; have HA6 := Lib.hid k63; have HB6 := Lib.hid hb6; have HG6 := Lib.hid hg6; clear hown6 k63 hb6 hg6)
          go_roundw
          case rel => exact ⟨m, P ++ [UInt8.ofNat q], a6, c6, by omega, by have := HP.out; rw [HBE.out] at this; simpa using this, by simp; omega, by first | rfl | go_num, by first | (simp; done) | (simp; rfl), by rw [← List.append_assoc, bytesV_append (xs ++ P), List.length_append, ← Nat.add_assoc]; exact HO6.out, by simp; omega, k62, HA6.out, HB.out.trans (((balloc (brefl wr) _).mono (by omega)).trans HB6.out), HKP.out.trans ((Kept.below (balloc (brefl wr) _)).trans (Kept.grown (owns_below HX.out (balloc (brefl wr) _) (Nat.le_refl _)) HG6.out))⟩
          case measure => first | (simp [Go.RowKit.intOf]; done) | (simp [Go.RowKit.intOf]; omega)

structure KeptW (W : World) where
  val : World
  is : Kept W val
instance (W : World) : Nonempty (KeptW W) := ⟨⟨W, Kept.refl W⟩⟩
theorem kept_start (W : World) : ∃ p : KeptW W, W.drew = p.val := ⟨⟨W.drew, Kept.below (bdrew1 (brefl W))⟩, rfl⟩
theorem kept_of {W W' : World} (h : Kept W W') : ∃ p : KeptW W, W' = p.val := ⟨⟨W', h⟩, rfl⟩
end Go.Proofs.Ytcegoenlajkgfaa
end
section

/- 'append' of so many noughts does what 'append' of a string of noughts does. Condition: sizes. -/
namespace Go.Proofs.Ytcegoenlajkgfaa
open Go.RowKit

theorem run_zeros {P : Program} (w : World) (t tn u ty e : TypeId) (i : TypeInfo) (ht : P.underlying t = some (.slice e)) (htn : P.underlying tn = some (.int .i64)) (hu : P.underlying u = some .string) (hi : P.info? e = some i) (hz : i.zero = some (.int .u8 0)) (hs1 : i.size = 1) (hby : i.bytes = 1)
    (base : Option Addr) (n c k : Nat) (hb : n + k ≤ 140737488355328) :
    (Builtin.append_ #[t, tn] ty #[.slice base n c, .int .i64 k]).run P w = (Builtin.append_ #[t, u] ty #[.slice base n c, .string (str (List.replicate k 0))]).run P w := by
  have hsz : (str (List.replicate k 0)).size = k := by simp [str, ByteArray.size]
  have hsc : Lib.strCells (str (List.replicate k 0)) = List.replicate k (Value.int .u8 0) := by simp [Lib.strCells, str]
  have hf : ∀ w, (Builtin.firstCells 1 k (.string (str (List.replicate k 0)))).run P w = .ok (List.replicate k (Value.int .u8 0)).toArray w := fun w => by
    have := Lib.run_firstCells_string (P := P) w 1 (str (List.replicate k 0))
    rw [hsz, hsc] at this
    exact this
  clear hsc
  generalize str (List.replicate k 0) = s at *
  have h3' : ¬ (9223372036854775807 < (n : Int)) := by omega
  have hw : IntKind.i64.wrap (k : Int) = k := by rw [IntKind.wrap_i64]; omega
  have h1 : ¬ ((k : Int) < 0) := by omega
  have h2 : ¬ (281474976710656 < (k : Int)) := by omega
  have h3 : ¬ (9223372036854775807 < ((n : Int) + (k : Int))) := by omega
  have h5 : Builtin.zeroCells (Value.int .u8 0).cells k = (List.replicate k (Value.int .u8 0)).toArray := by
    apply Array.ext'
    have e : (Value.int .u8 0).cells = #[Value.int .u8 0] := rfl
    rw [e]
    simp only [Builtin.zeroCells, Nat.mul_one, List.size_toArray, List.length_cons, List.length_nil, Nat.zero_add, Nat.mod_one]
    apply List.ext_getElem <;> simp
  have hw0 : IntKind.i64.wrap 0 = 0 := by rw [IntKind.wrap_i64]; omega
  have hfit : ¬ (n + k ≤ c) → ¬ (281474976710656 < Builtin.nextslicecap (n + k) c) := fun h => by
    have := growslice_fits (need := n + k) (old := c) (bytes := 1) (by omega) (by omega)
    omega
  by_cases hroom : n + k ≤ c
  · by_cases hk : k = 0
    · subst hk
      simp only [Nat.add_zero] at hroom
      simp [Builtin.append_, run_underlying ht, run_underlying htn, run_underlying hu, sizeOf, typeInfo, zeroValue, hi, hz, hs1, hby, Builtin.lenOf, asInt, asIntOf, hsz, hf, h3', hw0, hroom]
    · simp [Builtin.append_, run_underlying ht, run_underlying htn, run_underlying hu, sizeOf, typeInfo, zeroValue, hi, hz, hs1, hby, Builtin.lenOf, asInt, asIntOf, hw, h1, h2, h3, h5, hsz, hf, hk, hroom]
  · have hfit' := hfit hroom
    by_cases hk : k = 0
    · subst hk
      simp only [Nat.add_zero] at hroom hfit'
      simp [Builtin.append_, run_underlying ht, run_underlying htn, run_underlying hu, sizeOf, typeInfo, zeroValue, hi, hz, hs1, hby, Builtin.lenOf, asInt, asIntOf, hsz, hf, h3', hw0, hroom, hfit']
    · simp [Builtin.append_, run_underlying ht, run_underlying htn, run_underlying hu, sizeOf, typeInfo, zeroValue, hi, hz, hs1, hby, Builtin.lenOf, asInt, asIntOf, hw, h1, h2, h3, h5, hsz, hf, hk, hroom, hfit']
end Go.Proofs.Ytcegoenlajkgfaa
end
