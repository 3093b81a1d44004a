/- Joined from: Frame Ref1 Cut Ref2. -/
import Derived.Test.YthehcbbdkiomnaaJ01
import Derived.ProofKit
import Derived.OpenShut
import Derived.ShutString
import Derived.ChangeOld
import Derived.SizedLaws
import Derived.Lib.SmallJoins
import Derived.Deep.Slices
section

/- The frame of every law's proof: where the Go text returns true and leaves all old blocks, the law's row holds. No condition beside the row's. -/
namespace Go.Proofs.Ythehcbbdkiomnaa
open Go.ChangeShapes Go.WideShapes Go.ChangeAt Go.RowKit
open Go.ChangeMaps (open_string shut_string)

theorem ownKnob_none : ownKnob Try.prog.godebug = none := by kernel_rfl
theorem laid_out : laidOutB Try.prog = true := by kernel_rfl

section
variable {H : Type} {enc : TypeId × Value → H}
theorem trod_length {P : Program} {w : World} {b : Nat} {sp : Nat → Bool} {hd : Bool} : ∀ {ts : List TypeId} {vs : List Value} {ds : List (DataW H)} {ps : List MemPlace}, DataW.TrodAll enc P w b sp hd ts vs ds ps → ds.length = ts.length
  | [], vs, ds, ps, h => by obtain ⟨_, rfl, _⟩ := trodAll_nil h; rfl
  | t :: ts, vs, ds, ps, h => by
    obtain ⟨v, vs', d, ds', p, q, rfl, rfl, rfl, _, h'⟩ := trodAll_cons h
    simp [trod_length h']
theorem trod_later {W W' : World} (hb : Below W.heap.size W W') : ∀ {ts : List TypeId} {vs : List Value} {ds : List (DataW H)} {ps : List MemPlace}, (∀ t ∈ ts, Try.prog.readableRec t = true ∧ t < Try.prog.types.size) →
    DataW.TrodAll enc Try.prog W 0 (fun _ => true) true ts vs ds ps → DataW.TrodAll enc Try.prog W' 0 (fun b => decide (b < W.heap.size)) true ts vs ds ps
  | [], vs, ds, ps, _, h => by obtain ⟨rfl, rfl, rfl⟩ := trodAll_nil h; exact trodAll_mk0
  | t :: ts, vs, ds, ps, hr, h => by
    obtain ⟨v, vs', d, ds', p, q, rfl, rfl, rfl, h0, h'⟩ := trodAll_cons h
    have k0 := h0
    have lt0 : ∀ x ∈ p, x.block < W.heap.size := by obtain ⟨m, hm⟩ := k0; exact DataW.trod_lt m _ _ _ hm
    exact trodAll_cons_mk (Below.trod laid_out (hr t (by simp)).1 (hr t (by simp)).2 k0 hb lt0) (trod_later hb (fun t ht => hr t (by simp [ht])) h')

/-- What a law's walk must show: of all arguments that are read. -/
def Walks (H : Type) (enc : TypeId × Value → H) (F : FuncId) (ts : List TypeId) : Prop :=
  ∀ (W : World) (base : Nat) (args : Array Value) (ds : List (DataW H)) (p : List MemPlace),
    (∀ (j : Nat) t v, ts[j]? = some t → args[j]? = some v → Value.okWide Try.prog W .any base t v) →
    DataW.TrodAll enc Try.prog W 0 (fun _ => true) true ts args.toList ds p →
    (DataW.weightsEach Try.prog ts ds).all (· ≤ reachBytes) = true →
    Calls Try.prog F args W fun e w' => e = .returned (.bool true) ∧ Below W.heap.size W w'

set_option maxRecDepth 100000 in
theorem lift_law {os : Os} {F : FuncId} {fn : Func} {s : ChangeSpec} {conds : List PathCond} (started : os.Started) (noInit : Try.checked.prog.inits.idxOf? F = none) (hfn : Try.checked.prog.funcs[F]? = some fn)
    (witness : ∃ (w : World) (tape : Tape) (i : Input), w.os = os ∧ (w.forCall tape i).Shaped Try.checked.prog ∧ i.vars = [] ∧ Input.okWide Try.checked.prog (w.forCall tape i) .any w.heap.size F i ∧
      s.pre6 enc Try.checked.prog fn conds false (w.forCall tape i).memory i.args ∧ ({} : Assume).holds Try.checked.prog (lone (Frame.enter Try.checked.prog F i.args .normal) [] (w.forCall tape i)))
    (hres : fn.resultTypes = #[4]) (hvars : s.vars = []) (hspec : ∀ ds : List (DataW H), ds.length = fn.params.size → s.fn H (ds ++ []) = { results := [.lit (.bool true)], args := ds })
    (hrd : ∀ t ∈ fn.params.toList, Try.prog.readableRec t = true ∧ t < Try.prog.types.size) (walk : Walks H enc F fn.params.toList) :
    ReturnsInHanded {} Try.checked os F .any (s.pre6 enc Try.checked.prog fn conds false) (s.post enc Try.checked.prog fn false true false false) := by
  refine returnsInHanded_of_change_sized (C := Try.checked) ownKnob_none started noInit hfn witness ?_
  intro W base args ds gs before hval hW hcnd hsz _
  have hW' := hW
  obtain ⟨p, q, hA, hV, rfl, hfz, hnd⟩ := hW
  rw [hvars] at hV
  obtain ⟨rfl, rfl⟩ := trodVars_none hV
  have hv : s.plain.varTypes Try.checked.prog = [] := by
    simp [ChangeSpec.plain, DataSpec.varTypes, hvars]
  rw [hv, List.append_nil, List.append_nil] at hsz
  have hlen : ds.length = fn.params.size := by simpa using trod_length hA
  have hval' : ∀ (j : Nat) t v, fn.params.toList[j]? = some t → args[j]? = some v → Value.okWide Try.prog W .any base t v := fun j t v ht hv => hval j t v (by rw [Array.getElem?_toList] at ht; exact ht) hv
  have hA' : DataW.TrodAll enc Try.prog W 0 (fun _ => true) true fn.params.toList args.toList ds p := hA
  have hsz' : (DataW.weightsEach Try.prog fn.params.toList ds).all (· ≤ reachBytes) = true := hsz
  refine (walk W base args ds p hval' hA' hsz').mono fun e W' ⟨he, bel⟩ => ?_
  subst he
  refine ⟨_, rfl, ds, [], _, [], p, [], hW', ?_, ?_, ?_, bel.frame _, fun h => by cases h⟩
  · rw [hspec ds hlen, hres]
    exact trodAll_mk1 (shut_bool Try.underlying4 _)
  · rw [hspec ds hlen]
    exact trod_later bel hrd hA
  · rw [hspec ds hlen, hvars]
    rfl

/-- What an argument of bytes is. -/
theorem open_bytes {P : Program} {W : World} {base : Nat} {t e : TypeId} {v : Value} {d : DataW H} {p : List MemPlace} (ht : P.underlying t = some (.slice e)) (he : P.underlying e = some (.int .u8)) (hC : P.cellsOf e = 1)
    (hv : Value.okWide P W .any base t v) (h : DataW.Trod enc P W 0 (fun _ => true) true t v d p) :
    ∃ a n c bs, v = .slice a n c ∧ Has W a (bytesV bs) ∧ bs.length = n ∧ n ≤ c ∧ c ≤ maxLen ∧ (a = none → c = 0) := by
  obtain ⟨a, n, c, rfl⟩ := okWide_slice ht hv
  obtain ⟨fuel, hf⟩ := h
  rcases open_ints ht he hC hf with ⟨hcs, _⟩ | ⟨x, l, c', zs, hcs, _, hl, hm, hz, _, hcell, hwz⟩
  · simp [Value.cells] at hcs
    obtain ⟨rfl, rfl, rfl⟩ := hcs
    exact ⟨none, 0, 0, [], rfl, Has.nil _ _, rfl, Nat.le_refl _, Nat.zero_le _, fun _ => rfl⟩
  · simp [Value.cells] at hcs
    obtain ⟨rfl, rfl, rfl⟩ := hcs
    simp only [if_true] at hz
    refine ⟨some x, n, c, (zs.take n).map fun z => UInt8.ofNat z.toNat, rfl, ?_, by simp; omega, hl, hm, fun h => by cases h⟩
    intro j u hu
    refine ⟨x, rfl, ?_⟩
    have hj : j < n := by
      rcases Nat.lt_or_ge j n with g | g
      · exact g
      · rw [List.getElem?_eq_none (by rw [bytesV_length]; simp; omega)] at hu; cases hu
    rw [hcell j (by omega), ← hu]
    have hw := hwz zs[j] (List.getElem_mem (by omega))
    have hb := bounds_u8 hw
    simp only [bytesV, List.map_map, List.getElem?_map, List.getElem?_take, if_pos hj, List.getElem?_eq_getElem (show j < zs.length by omega), Option.map_some, List.getD_eq_getElem?_getD, Option.getD_some, Function.comp_apply, Option.some.injEq, Value.int.injEq, true_and]
    simp only [UInt8.toNat_ofNat']
    omega

end
end Go.Proofs.Ythehcbbdkiomnaa
end
section

/- Contracts of the reference of layer 1: In, U, S16, S32, Rows. Conditions: sizes as the law hands them in. -/
namespace Go.Proofs.Ythehcbbdkiomnaa
open Go.RowKit

set_option maxRecDepth 100000 in
set_option maxHeartbeats 800000 in
theorem in_any (n : Nat) (k m : Int) (w : World) (hn : n ≤ maxLen) (hk : -9223372036854775808 ≤ k ∧ k ≤ 9223372036854775807) (hm : -9223372036854775808 ≤ m ∧ m ≤ 9223372036854775807) :
    Calls Try.prog 57 #[.int .i64 n, .int .i64 k, .int .i64 m] w fun e w' => e = .returned (.bool (decide (0 ≤ k ∧ 0 ≤ m ∧ k ≤ n ∧ m ≤ n - k))) ∧ w = w' := by
  unfold maxLen at hn
  obtain ⟨hk1, hk2⟩ := hk
  obtain ⟨hm1, hm2⟩ := hm
  obtain ⟨B, hB⟩ : ∃ B : Bool, B = decide (0 ≤ k ∧ 0 ≤ m ∧ k ≤ n ∧ m ≤ n - k) := ⟨_, rfl⟩
  rw [← hB]
  have HB := Lib.hid hB
  clear hB
  by_cases h1 : 0 ≤ k
  · by_cases h2 : 0 ≤ m
    · by_cases h3 : k ≤ n
      · go_enter Try.func57, Try.ntmps57
        go_wp2
        go_ret
        refine ⟨?_, rfl⟩
        rw [HB.out]
        have : decide (m ≤ (n : Int) - k) = decide (0 ≤ k ∧ 0 ≤ m ∧ k ≤ n ∧ m ≤ n - k) := by rw [decide_eq_decide]; omega
        rw [← this]; rfl
      · have hb : B = false := by rw [HB.out]; simp; omega
        subst hb
        go_enter Try.func57, Try.ntmps57
        go_wp2
        go_ret
        exact ⟨rfl, rfl⟩
    · have hb : B = false := by rw [HB.out]; simp; omega
      subst hb
      go_enter Try.func57, Try.ntmps57
      go_wp2
      go_ret
      exact ⟨rfl, rfl⟩
  · have hb : B = false := by rw [HB.out]; simp; omega
    subst hb
    go_enter Try.func57, Try.ntmps57
    go_wp2
    go_ret
    exact ⟨rfl, rfl⟩

theorem num_lt (bs : List UInt8) (k : Nat) : ∀ i, num bs k i < 256 ^ i
  | 0 => by simp [num]
  | i + 1 => by
    have := num_lt bs k i
    have hb := byte_le (bs.getD (k + i) 0)
    simp only [num, Nat.pow_succ]; omega

def URel (bs : List UInt8) (k m : Nat) (x i : Value) : Prop := ∃ j : Nat, j ≤ m ∧ i = .int .i64 j ∧ x = .int .i64 (num bs k j : Nat)

set_option maxRecDepth 100000 in
set_option maxHeartbeats 800000 in
theorem u_in (a : Option Addr) (n c k m : Nat) (bs : List UInt8) (w : World) (h : Has w a (bytesV bs)) (hl : bs.length = n) (hk : k + m ≤ n) (hm : m ≤ 4) (hn : n ≤ maxLen) :
    Calls Try.prog 38 #[.slice a n c, .int .i64 k, .int .i64 m] w fun e w' => e = .returned (.int .i64 (num bs k m : Nat)) ∧ w = w' := by
  have hin := in_any n k m
  have hd : decide ((0 : Int) ≤ k ∧ (0 : Int) ≤ m ∧ (k : Int) ≤ n ∧ (m : Int) ≤ n - k) = true := by simp; omega
  rw [hd] at hin
  have HI := Lib.hid hin
  have HH := Lib.hid h
  have HL := Lib.hid hl
  have hn' := hn
  unfold maxLen at hn
  clear hin hd h hl
  go_enter Try.func38, Try.ntmps38
  go_wp2_with (first | (go_at_call 57; refine (HI.out _ hn' (by omega) (by omega)).mono ?_; rintro e w_ ⟨rfl, rfl⟩))
  go_loop [7, 8] (URel bs k m) (fun _ i => m - (Go.RowKit.intOf i).toNat)
  case atStart => exact ⟨0, Nat.zero_le _, rfl, rfl⟩
  case round =>
    obtain ⟨j, hj, rfl, rfl⟩ := hrel
    by_cases hlt : j < m
    · obtain ⟨b, o, ha, hb, hg⟩ := HH.out.get (by rw [bytesV_length, HL.out]; omega)
      have hc := hg (k + j) _ (bytesV_get bs (k + j) (by rw [HL.out]; omega))
      have hn1 : num bs k (j + 1) = 256 * num bs k j + (bs.getD (k + j) 0).toNat := rfl
      have HN := Lib.hid hn1
      have hx : num bs k j ≤ 16777215 := by
        have := num_lt bs k j
        have h2 : 256 ^ j ≤ 256 ^ 3 := Nat.pow_le_pow_right (by omega) (by omega)
        omega
      have hby := byte_le (bs.getD (k + j) 0)
      generalize (bs.getD (k + j) 0).toNat = y at *
      generalize num bs k j = x at *
      clear hn1 hg
      subst ha
      go_wp2
      go_round
      case rel => exact ⟨j + 1, by omega, by go_num, by rw [HN.out]; go_num⟩
      case measure => simp [Go.RowKit.intOf]; omega
    · have : j = m := by omega
      subst this
      go_wp2
      go_ret
      exact ⟨rfl, rfl⟩

set_option maxHeartbeats 400000 in
theorem u_out (a : Option Addr) (n c m : Nat) (k : Int) (w : World) (hk : ¬ (0 ≤ k ∧ k + m ≤ n)) (hk' : -9223372036854775808 ≤ k ∧ k ≤ 9223372036854775807) (hm : m ≤ 4) (hn : n ≤ maxLen) :
    Calls Try.prog 38 #[.slice a n c, .int .i64 k, .int .i64 m] w fun e w' => e = .returned (.int .i64 (-1)) ∧ w = w' := by
  have hin := in_any n k m
  have hd : decide ((0 : Int) ≤ k ∧ (0 : Int) ≤ m ∧ k ≤ n ∧ (m : Int) ≤ n - k) = false := by simp; omega
  rw [hd] at hin
  have HI := Lib.hid hin
  have HK := Lib.hid hk'
  have hn' := hn
  unfold maxLen at hn
  clear hin hd hk hk'
  go_enter Try.func38, Try.ntmps38
  go_wp2_with (first | (go_at_call 57; refine (HI.out _ hn' HK.out (by omega)).mono ?_; rintro e w_ ⟨rfl, rfl⟩))
  go_ret
  exact ⟨rfl, rfl⟩
end Go.Proofs.Ythehcbbdkiomnaa
end
section

/- Contracts of the law's 'cut': a piece of bytes, cut three ways, or that it was thrown. Conditions: the slice's, and that the kind is one of three. -/
namespace Go.Proofs.Ythehcbbdkiomnaa
open Go.RowKit

/-- Is there such a piece? -/
def fitK (n : Nat) (kind : Nat) (k m s : Int) : Prop := match kind with
  | 0 => 0 ≤ k ∧ 0 ≤ m ∧ k ≤ n ∧ m ≤ n - k
  | 1 => 0 ≤ k ∧ k ≤ n
  | _ => 0 ≤ k ∧ k ≤ n ∧ 0 ≤ m ∧ 0 ≤ s ∧ (s = 0 ∨ m.toNat ≤ (n - k.toNat) / s.toNat)
end Go.Proofs.Ythehcbbdkiomnaa
end
section

/- Contract of the reference's Rows. Conditions: sizes as the law hands them in. -/
namespace Go.Proofs.Ythehcbbdkiomnaa
open Go.RowKit

set_option maxRecDepth 100000 in
set_option maxHeartbeats 800000 in
theorem rref_any (n : Nat) (k m s : Int) (B : Bool) (hB : B = true ↔ fitK n 2 k m s) (w : World) (hn : n ≤ maxLen) (hk : -9223372036854775808 ≤ k ∧ k ≤ 9223372036854775807) (hm : -9223372036854775808 ≤ m ∧ m ≤ 9223372036854775807) (hs : -9223372036854775808 ≤ s ∧ s ≤ 9223372036854775807) :
    Calls Try.prog 70 #[.int .i64 n, .int .i64 k, .int .i64 m, .int .i64 s] w fun e w' => e = .returned (.bool B) ∧ w = w' := by
  unfold maxLen at hn
  obtain ⟨hk1, hk2⟩ := hk
  obtain ⟨hm1, hm2⟩ := hm
  obtain ⟨hs1, hs2⟩ := hs
  simp only [fitK] at hB
  have bad : ¬ (0 ≤ k ∧ k ≤ n ∧ 0 ≤ m ∧ 0 ≤ s) → B = false := by
    intro h
    cases B with
    | false => rfl
    | true => exact absurd ((hB.1 rfl)) (fun g => h ⟨g.1, g.2.1, g.2.2.1, g.2.2.2.1⟩)
  by_cases h1 : 0 ≤ k
  · by_cases h2 : 0 ≤ m
    · by_cases h3 : 0 ≤ s
      · by_cases h4 : k ≤ n
        · by_cases h5 : s = 0
          · have hb : B = true := hB.2 ⟨h1, h4, h2, h3, .inl h5⟩
            subst hb
            subst h5
            clear hB bad
            go_enter Try.func70, Try.ntmps70
            go_wp2
            go_ret
            exact ⟨rfl, rfl⟩
          · obtain ⟨j, rfl⟩ : ∃ j : Nat, k = j := ⟨k.toNat, by omega⟩
            obtain ⟨i, rfl⟩ : ∃ i : Nat, m = i := ⟨m.toNat, by omega⟩
            obtain ⟨t, rfl⟩ : ∃ t : Nat, s = t := ⟨s.toNat, by omega⟩
            simp only [Int.toNat_natCast] at hB
            have hq : (((n : Int) - (j : Int)) / (t : Int)) = (((n - j) / t : Nat) : Int) := by
              rw [← Int.ofNat_sub (by omega)]; exact (Int.natCast_ediv _ _).symm
            have ht : ((t : Int) == 0) = false := by simp; omega
            by_cases h6 : i ≤ (n - j) / t
            · have hb : B = true := hB.2 ⟨h1, h4, h2, h3, .inr h6⟩
              subst hb
              have HQ := Lib.hid (show ((t : Int) == 0 || decide ((i : Int) ≤ ((n : Int) - (j : Int)) / (t : Int))) = true by
                rw [hq]
                generalize (n - j) / t = q at *
                have : decide ((i : Int) ≤ (q : Int)) = true := by simp; omega
                rw [this, Bool.or_true])
              clear hB bad h6 hq ht
              go_enter Try.func70, Try.ntmps70
              go_wp2
              go_ret
              exact ⟨by rw [HQ.out]; rfl, rfl⟩
            · have hb : B = false := by
                cases B with
                | false => rfl
                | true =>
                  rcases (hB.1 rfl).2.2.2.2 with h | h
                  · exact absurd h h5
                  · exact absurd h h6
              subst hb
              have HQ := Lib.hid (show ((t : Int) == 0 || decide ((i : Int) ≤ ((n : Int) - (j : Int)) / (t : Int))) = false by
                rw [hq, ht]
                generalize (n - j) / t = q at *
                have : decide ((i : Int) ≤ (q : Int)) = false := by simp; omega
                rw [this]; rfl)
              clear hB bad h6 hq ht
              go_enter Try.func70, Try.ntmps70
              go_wp2
              go_ret
              exact ⟨by rw [HQ.out]; rfl, rfl⟩
        · obtain rfl := bad (fun h => h4 h.2.1)
          clear hB bad
          go_enter Try.func70, Try.ntmps70
          go_wp2
          go_ret
          exact ⟨rfl, rfl⟩
      · obtain rfl := bad (fun h => h3 h.2.2.2)
        clear hB bad
        go_enter Try.func70, Try.ntmps70
        go_wp2
        go_ret
        exact ⟨rfl, rfl⟩
    · obtain rfl := bad (fun h => h2 h.2.2.1)
      clear hB bad
      go_enter Try.func70, Try.ntmps70
      go_wp2
      go_ret
      exact ⟨rfl, rfl⟩
  · obtain rfl := bad (fun h => h1 h.1)
    clear hB bad
    go_enter Try.func70, Try.ntmps70
    go_wp2
    go_ret
    exact ⟨rfl, rfl⟩
end Go.Proofs.Ythehcbbdkiomnaa
end
