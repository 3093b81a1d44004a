
/- The frame of a law's proof whose row lists the table of verbs: where the Go text returns true and leaves all old blocks, the table being in memory, the law's row holds. No condition beside the row's. -/
import Derived.Test.YtonogcbcjmdmhaaDoorFrame
import Derived.Test.YtonogcbcjmdmhaaDoorVTab
import Derived.LaidMore
import Derived.Stop.Joined
import Derived.ChangeSame
namespace Go.Proofs.YtonogcbcjmdmhaaDoor
open Go.ChangeShapes Go.WideShapes Go.ChangeAt Go.RowKit

def laidV : List (String × DataW Unit) := [("swash/verb.verbs", Rows.laid_swash_verb_verbs)]
theorem gVerbs : Tryd.prog.globalNamed "swash/verb.verbs" = some 0 := by kernel_rfl
theorem tVerbs : (Tryd.prog.globals[0]?).map (·.type) = some 34 := by kernel_rfl
theorem cVerbs : Tryd.prog.cellsOf 34 = 32 := by kernel_rfl
theorem cChange : Tryd.prog.cellsOf 33 = 2 := by kernel_rfl
theorem cString : Tryd.prog.cellsOf 9 = 1 := by kernel_rfl
/-- The door's own heap meets the condition. -/
theorem door_met (os : Os) (args : Array Value) : laidMetH Tryd.prog laidV ((World.doorLaid Tryd.prog 400 os).forCall (fun _ _ => 0) ⟨#[], args, []⟩).memory :=
  laidMetH_of_parts3 (fuel := 8) (laidMet_of_run' 8 (by kernel_rfl) (by kernel_rfl)) (by kernel_rfl) (by kernel_rfl)
def pairsV : List (List UInt8 × List UInt8) := (List.range 16).map fun k => (wasV k, isV k)
theorem laid_is {H : Type} : (Rows.laid_swash_verb_verbs : DataW H) = .agg (pairsV.map fun x => .agg [.lit (.string x.1), .lit (.string x.2)]) := rfl
theorem change_is : ∃ f0 f1 : Field, Tryd.prog.underlying 33 = some (.struct #[f0, f1]) ∧ f0.type = 9 ∧ f0.offset = 0 ∧ f1.type = 9 ∧ f1.offset = 1 :=
  ⟨_, _, Tryd.underlying33, rfl, rfl, rfl, rfl⟩
theorem cells_two {H : Type} {enc : TypeId × Value → H} {W : World} {b : Nat} {sp : Nat → Bool} {hd : Bool} {m : Nat} {cs : List Value} {x : DataW H × List MemPlace} {l1 l2 : List UInt8}
    (h : DataW.trod enc Tryd.prog W b sp hd m 33 cs = some x) (hx : x.1 = .agg [.lit (.string l1), .lit (.string l2)]) : cs[0]? = some (.string (str l1)) ∧ cs[1]? = some (.string (str l2)) := by
  obtain ⟨f0, f1, hu, t0, o0, t1, o1⟩ := change_is
  obtain ⟨y0, y1, n, rfl, hl, h0, h1⟩ := trod_struct2 hu h
  rw [t0, o0, cString] at h0
  rw [t1, o1, cString] at h1
  obtain ⟨s0, e0, rfl, _⟩ := DataW.trod_string Tryd.underlying9 h0
  obtain ⟨s1, e1, rfl, _⟩ := DataW.trod_string Tryd.underlying9 h1
  simp only [DataW.agg.injEq, List.cons.injEq, DataW.lit.injEq, Lit.string.injEq, and_true] at hx
  obtain ⟨rfl, rfl⟩ := hx
  have k0 : ((cs.drop 0).take 1)[0]? = some (.string s0) := by rw [e0]; rfl
  have k1 : ((cs.drop 1).take 1)[0]? = some (.string s1) := by rw [e1]; rfl
  rw [List.getElem?_take, if_pos (by decide), List.getElem?_drop] at k0 k1
  have g : ∀ s : ByteArray, str s.data.toList = s := fun s => by simp [str]
  rw [g, g]
  exact ⟨k0, k1⟩
theorem verbs_of_laid {W : World} (h : laidMetH Tryd.prog laidV W) : VerbsIn W := by
  rw [MakeChecks.laidMetH_plain _ _ _ (by kernel_rfl)] at h
  obtain ⟨ps, ⟨g0, t0, cs0, f0, p0, q0, hg0, ht0, hv0, hd0, _⟩, _, _⟩ := h
  obtain rfl := Option.some.inj (gVerbs.symm.trans hg0)
  obtain rfl := Option.some.inj (tVerbs.symm.trans ht0)
  rw [laid_is] at hd0
  obtain ⟨xs, m1, _, hx1, hlen, hn, hel⟩ := DataW.trod_array Tryd.underlying34 hd0
  simp only [Prod.mk.injEq, DataW.agg.injEq] at hx1
  have key : ∀ k, k < 16 → cs0[k * 2]? = some (.string (str (wasV k))) ∧ cs0[k * 2 + 1]? = some (.string (str (isV k))) := by
    intro k hk
    have h1 := hel k hk
    rw [cChange] at h1
    have hxk : xs[k]? = some xs[k] := List.getElem?_eq_getElem (by omega)
    rw [hxk] at h1
    have hp : (xs.map (·.1))[k]? = some (.agg [.lit (.string (wasV k)), .lit (.string (isV k))]) := by
      rw [← hx1.1]
      simp [pairsV, hk]
    rw [List.getElem?_map, hxk] at hp
    obtain ⟨k0, k1⟩ := cells_two h1 (by simpa using hp)
    rw [List.getElem?_take, if_pos (by decide), List.getElem?_drop] at k0 k1
    exact ⟨by simpa using k0, by simpa using k1⟩
  refine ⟨fun k hk => ?_, fun k hk => ?_⟩
  · rw [World.var?_cell hg0 hv0 (k * 2)]
    simpa using (key k hk).1
  · rw [World.var?_cell hg0 hv0 (k * 2 + 1)]
    simpa using (key k hk).2
/-- What a law's walk must show: of all arguments that are read, where the table of verbs lies in memory. -/
def WalksV (H : Type) (enc : TypeId × Value → H) (F : FuncId) (ts : List TypeId) : Prop :=
  ∀ (W : World) (base : Nat) (args : Array Value) (ds : List (DataW H)) (p : List MemPlace), VerbsIn W →
    (∀ (j : Nat) t v, ts[j]? = some t → args[j]? = some v → Value.okWide Tryd.prog W .any base t v) →
    DataW.TrodAll enc Tryd.prog W 0 (fun _ => true) true ts args.toList ds p →
    (DataW.weightsEach Tryd.prog ts ds).all (· ≤ reachBytes) = true →
    Calls Tryd.prog F args W fun e W' => e = .returned (.bool true) ∧ Below W.heap.size W W'
section
variable {H : Type} {enc : TypeId × Value → H}
set_option maxRecDepth 100000 in
theorem lift_laid {os : Os} {F : FuncId} {fn : Func} {s : ChangeSpec} (started : os.Started) (noInit : Tryd.checked.prog.inits.idxOf? F = none) (hfn : Tryd.checked.prog.funcs[F]? = some fn)
    (witness : ∃ (w : World) (tape : Tape) (i : Input), w.os = os ∧ (w.forCall tape i).Shaped Tryd.checked.prog ∧ i.vars = [] ∧ Input.okWide Tryd.checked.prog (w.forCall tape i) .any w.heap.size F i ∧
      ((s.pre enc Tryd.checked.prog fn [] false (w.forCall tape i).memory i.args ∧ laidMetH Tryd.prog laidV (w.forCall tape i).memory) ∧ sizedMet enc Tryd.checked.prog fn (OpenSpec.ofChange s) false (w.forCall tape i).memory i.args) ∧ ({} : Assume).holds Tryd.checked.prog (lone (Frame.enter Tryd.checked.prog F i.args .normal) [] (w.forCall tape i)))
    (hres : fn.resultTypes = #[4]) (hvars : s.vars = []) (hspec : ∀ ds : List (DataW H), ds.length = fn.params.size → s.fn H (ds ++ []) = { results := [.lit (.bool true)], args := ds })
    (hrd : ∀ t ∈ fn.params.toList, Tryd.prog.readableRec t = true ∧ t < Tryd.prog.types.size) (walk : WalksV H enc F fn.params.toList) :
    ReturnsInHanded {} Tryd.checked os F .any (fun w args => (s.pre enc Tryd.checked.prog fn [] false w args ∧ laidMetH Tryd.prog laidV w) ∧ sizedMet enc Tryd.checked.prog fn (OpenSpec.ofChange s) false w args) (s.post enc Tryd.checked.prog fn false true false false) := by
  refine returnsInHanded_of_change_and (C := Tryd.checked) (X := fun w _ => laidMetH Tryd.prog laidV w) (fun _ _ _ hh h => h.of_heap hh) ownKnob_none started noInit hfn witness ?_
  intro W base args ds gs before hval hW hcnd hsz hL _
  have hW' := hW
  obtain ⟨p, q, hA, hV, rfl, hfz, hnd⟩ := hW
  rw [hvars] at hV
  obtain ⟨rfl, rfl⟩ := trodVars_none hV
  have hv : s.plain.varTypes Tryd.checked.prog = [] := by
    simp [ChangeSpec.plain, DataSpec.varTypes, hvars]
  rw [hv, List.append_nil, List.append_nil] at hsz
  have hlen : ds.length = fn.params.size := by simpa using trod_length hA
  have hval' : ∀ (j : Nat) t v, fn.params.toList[j]? = some t → args[j]? = some v → Value.okWide Tryd.prog W .any base t v := fun j t v ht hv => hval j t v (by rw [Array.getElem?_toList] at ht; exact ht) hv
  have hA' : DataW.TrodAll enc Tryd.prog W 0 (fun _ => true) true fn.params.toList args.toList ds p := hA
  have hsz' : (DataW.weightsEach Tryd.prog fn.params.toList ds).all (· ≤ reachBytes) = true := hsz
  refine (walk W base args ds p (verbs_of_laid hL) hval' hA' hsz').mono fun e W' ⟨he, bel⟩ => ?_
  subst he
  refine ⟨_, rfl, ds, [], _, [], p, [], hW', ?_, ?_, ?_, bel.frame _, fun h => by cases h⟩
  · rw [hspec ds hlen, hres]
    exact trodAll_mk1 (shut_bool Tryd.underlying4 _)
  · rw [hspec ds hlen]
    exact trod_later bel hrd hA
  · rw [hspec ds hlen, hvars]
    rfl
end
end Go.Proofs.YtonogcbcjmdmhaaDoor
