
/- Package pick: slices.SortFunc of settings: a permutation, in order. Conditions: as each says. -/
import Derived.Test.YtfnghinefbmlmaaPickE
import Derived.Test.YtfnghinefbmlmaaShelf
namespace Go.Proofs.Ytfnghinefbmlmaa
open Go.RowKit Go.Shelf Go.Lib Go.Sort

set_option maxHeartbeats 800000 in
theorem gins_none (c : Nat) (w : World) :
    Calls Try.prog 60 #[.slice none 0 c, .int .i64 0, .int .i64 0, .func (.func 35) #[] #[]] w fun e w' => e = .returned (.tuple #[]) ∧ w = w' := by
  go_enter Try.func60, Try.ntmps60
  go_wp2_with fail
  go_loop [8] (fun i => i = .int .i64 1) (fun _ => 0)
  case atStart => rfl
  case round =>
    obtain rfl := hrel
    go_wp2_with fail
    go_end0
    exact ⟨rfl, rfl⟩
set_option maxHeartbeats 800000 in
theorem gpdq_none (c : Nat) (l : Int) (w : World) :
    Calls Try.prog 50 #[.slice none 0 c, .int .i64 0, .int .i64 0, .int .i64 l, .func (.func 35) #[] #[]] w fun e w' => e = .returned (.tuple #[]) ∧ w = w' := by
  go_enter Try.func50, Try.ntmps50
  go_wp2_with fail
  go_loop [1, 2] (fun a b => a = .int .i64 0 ∧ b = .int .i64 0) (fun _ _ => 0)
  case atStart => exact ⟨rfl, rfl⟩
  case round =>
    obtain ⟨rfl, rfl⟩ := hrel
    go_wp2_with ((go_at_call 60; refine (gins_none _ _).mono ?_; rintro e w_ ⟨rfl, rfl⟩))
    exact bodyPost_ret (v := .tuple #[]) (by simp [results, Try.results50, go_sem]) rfl ⟨rfl, rfl⟩
set_option maxHeartbeats 800000 in
theorem gsort_none (c : Nat) (w : World) :
    Calls Try.prog 34 #[.slice none 0 c, .func (.func 35) #[] #[]] w fun e w' => e = .returned (.tuple #[]) ∧ w = w' := by
  go_enter Try.func34, Try.ntmps34
  go_wp2_with (first | (go_at_call 51; refine (Try.bits_Len 0 _ (by omega) (by omega)).mono ?_; rintro e w' ⟨rfl, rfl⟩) | (go_at_call 50; refine (gpdq_none _ _ _).mono ?_; rintro e w_ ⟨rfl, rfl⟩))
  go_end0
  exact ⟨rfl, rfl⟩
instance : Inhabited (Int × Int) := ⟨(0, 0)⟩
theorem swoS : SWO (ltOf cmpS) where
  irrefl x := by simp [ltOf, cmpS_lt, ltS_irrefl]
  trans x y z h1 h2 := by
    simp only [ltOf, cmpS_lt, decide_eq_true_eq] at *
    exact ltS_trans h1 h2
  ntrans x y z h1 h2 := by
    simp only [ltOf, cmpS_lt, decide_eq_false_iff_not] at *
    simp only [ltS, Bool.or_eq_true, Bool.and_eq_true, decide_eq_true_eq] at *
    omega
theorem ggetB {l : List Value} {i : Nat} {x : Value} (h : l[i]? = some x) : l[i]! = x := by rw [List.getElem!_eq_getElem?_getD, h]; rfl
theorem ggetP {d : Array St} {i : Nat} {p : St} (h : d.toList[i]? = some p) : d[i]! = p := by
  obtain ⟨h1, h2⟩ := List.getElem?_eq_some_iff.1 h
  rw [getElem!_pos d i (by simpa using h1)]
  simpa using h2
theorem gadd_at (g o j : Nat) : (⟨g, o, none⟩ : Addr).add j = ⟨g, o + j, none⟩ := by simp only [Addr.add]; split <;> simp_all
theorem gflat_get (ps : List St) (j : Nat) (h : j < ps.length * 2) : (flatK encS 2 ps.toArray)[j]! = (gv ps)[j]! := by
  rw [get_flatK _ _ _ _ (by simpa using h)]
  obtain ⟨p, hp⟩ : ∃ p, ps[j / 2]? = some p := ⟨_, List.getElem?_eq_getElem (by omega)⟩
  rw [ggetP (d := ps.toArray) (p := p) (by simpa using hp)]
  have hj : j % 2 = 0 ∨ j % 2 = 1 := by omega
  rcases hj with hj | hj
  · have e : j / 2 * 2 = j := by omega
    have h1 := gv_fst hp
    rw [e] at h1
    rw [hj, ggetB h1]
    rfl
  · have e : j / 2 * 2 + 1 = j := by omega
    have h2 := gv_snd hp
    rw [e] at h2
    rw [hj, ggetB h2]
    rfl
theorem gholds {w : World} {blk off : Nat} {ps : List St} (h : Has w (some ⟨blk, off, none⟩) (gv ps)) (hf : ∀ j, j < ps.length * 2 → w.frozen? ⟨blk, off + j, none⟩ = false) : HoldsK encS 2 w blk off ps.toArray := by
  intro j hj
  rw [size_flatK] at hj
  have hj' : j < ps.length * 2 := by simpa using hj
  refine ⟨?_, hf j hj'⟩
  have hlt : j < (gv ps).length := by rw [gv_length]; exact hj'
  obtain ⟨p, hp, hc⟩ := h j _ (List.getElem?_eq_getElem hlt)
  cases hp
  rw [gadd_at] at hc
  rw [gflat_get _ _ hj', hc, ggetB (List.getElem?_eq_getElem hlt)]
  rfl
theorem ghas {w : World} {blk off : Nat} {ps : List St} (h : HoldsK encS 2 w blk off ps.toArray) : Has w (some ⟨blk, off, none⟩) (gv ps) := by
  intro j u hu
  refine ⟨_, rfl, ?_⟩
  have hlt : j < (gv ps).length := (List.getElem?_eq_some_iff.1 hu).1
  have hlt' : j < ps.length * 2 := by rwa [gv_length] at hlt
  have := (h j (by rw [size_flatK]; simpa using hlt')).1
  rw [gflat_get _ _ hlt', ggetB hu] at this
  rw [gadd_at, this]
  rfl
set_option maxHeartbeats 1000000 in
theorem gsort_any (blk off cap : Nat) (ps : List St) (w : World) (h : Has w (some ⟨blk, off, none⟩) (gv ps)) (hf : ∀ j, j < ps.length * 2 → w.frozen? ⟨blk, off + j, none⟩ = false) (hb : blk < w.heap.size) (hsz : ps.length < 4611686018427387904) :
    Calls Try.prog 34 #[.slice (some ⟨blk, off, none⟩) ps.length cap, .func (.func 35) #[] #[]] w fun e w' => e = .returned (.tuple #[]) ∧ ∃ rs : List St, rs.Perm ps ∧ (∀ (i j : Nat) (p q : St), i < j → rs[i]? = some p → rs[j]? = some q → ltS q p = false) ∧ Has w' (some ⟨blk, off, none⟩) (gv rs) ∧ ∀ B, B ≤ blk → Go.RowKit.Below B w w' := by
  have eg : ∀ args w, (callFunc 35 args).run Try.prog w = .ok (.enter 35 args) w := enters_of Try.func35 (by kernel_rfl) rfl
  have hH := gholds h hf
  have hcon := AnyQ.slices_SortFunc Try.sortSettings 2 Try.isAgg44 Try.sizeOf44 encS (fun _ => rfl) (fun x v hv => by simp [encS] at hv; rcases hv with rfl | rfl <;> rfl) cmpS swoS 35 #[] blk off cap ps.toArray w eg (fun _ _ _ _ x y => comp_any x y _) hH hb (by simpa using hsz)
  change Calls Try.prog 34 _ _ _ at hcon
  have e0 : ps.toArray.size = ps.length := by simp
  rw [e0] at hcon
  refine hcon.mono ?_
  rintro e w' ⟨rfl, d', n, os, hp, hs, rfl⟩
  have e2 : d'.size = ps.length := by simpa using hp.1
  refine ⟨rfl, d'.toList, ?_, ?_, ?_, ?_⟩
  · have := hp.2.2
    simp only [Array.toList_extract, List.extract_eq_take_drop, List.drop_zero, Nat.sub_zero] at this
    rw [List.take_of_length_le (by simp [e2]), List.take_of_length_le (by simp)] at this
    exact this
  · intro i j p q hij hi hj
    have hj' : j < ps.length := by
      have := (List.getElem?_eq_some_iff.1 hj).1
      simpa [e2] using this
    have := hs i j (Nat.zero_le _) hij hj'
    rw [ggetP hi, ggetP hj] at this
    simp only [ltOf, cmpS_lt] at this
    simpa using this
  · have hb' : blk < (putRowK encS 2 (Sort.ahead w n) blk off d').heap.size := by simpa [putRowK, putRow, mapBlock, Sort.ahead] using hb
    have h1 := holdsK_putRowK encS 2 (Sort.ahead w n) blk off ps.toArray d' hH (by simpa using hp.1)
    have h2 := holdsK_grow encS 2 _ os blk off d' hb' h1
    have h3 : HoldsK encS 2 (sortWorldK encS 2 w blk off n d' os) blk off d'.toList.toArray := by rw [Array.toArray_toList]; exact h2
    exact ghas h3
  · intro B hB
    have hm : Go.RowKit.Below B w (putRowK encS 2 (Sort.ahead w n) blk off d') := ⟨rfl, rfl, rfl, by simp [putRowK, putRow, mapBlock, Sort.ahead], fun k hk => by
      simp [putRowK, putRow, mapBlock, Sort.ahead, Array.getElem?_modify, show blk ≠ k by omega]⟩
    have hB' : B ≤ (putRowK encS 2 (Sort.ahead w n) blk off d').heap.size := Nat.le_trans (by omega) hm.size
    exact hm.trans ⟨rfl, rfl, rfl, by show _ ≤ (_ ++ os).size; rw [Array.size_append]; omega, fun k hk => heap_grow_old _ os (by omega)⟩
theorem own_someG {w : World} {base e n c : Nat} {p : Addr} {xs : List Value} (h : w.ownsRow base e 2 (.slice (some p) n c) n xs) : ∃ g, p = ⟨g, 0, none⟩ ∧ base ≤ g ∧ g < w.heap.size ∧ ∀ j, j < n * 2 → w.frozen? ⟨g, 0 + j, none⟩ = false := by
  rcases h.2 with ⟨hv, rfl⟩ | ⟨g, cap, cur, hv, hb, hg, hnc, _, hs, _⟩
  · cases hv
  · injection hv with h1 h2 h3
    injection h1 with h1
    refine ⟨g, h1, hb, (Array.getElem?_eq_some_iff.1 hg).1, fun j hj => ?_⟩
    simp [World.frozen?, hg]
/-- Sorting what the call has gathered. -/
theorem gsort_own (a : Option Addr) (n c B : Nat) (ps : List St) (w : World) (h : w.ownsRow B 44 2 (.slice a n c) n (gv ps)) (hl : ps.length = n) (hn : n ≤ 100000) (hd : ps.Nodup) :
    Calls Try.prog 34 #[.slice a n c, .func (.func 35) #[] #[]] w fun e w' => e = .returned (.tuple #[]) ∧ (∃ rs : List St, rs.Perm ps ∧ RiseS rs ∧ Has w' a (gv rs)) ∧ Go.RowKit.Below B w w' := by
  have rise : ∀ rs : List St, rs.Perm ps → (∀ (i j : Nat) (p q : St), i < j → rs[i]? = some p → rs[j]? = some q → ltS q p = false) → RiseS rs := fun rs hp hs => by
    rw [RiseS, List.pairwise_iff_getElem]
    intro i j hi hj hij
    have hne : rs[i] ≠ rs[j] := by
      have hnd : rs.Nodup := hp.nodup_iff.2 hd
      have := List.pairwise_iff_getElem.1 hnd i j hi hj hij
      exact this
    have := hs i j rs[i] rs[j] hij (List.getElem?_eq_getElem hi) (List.getElem?_eq_getElem hj)
    rcases ltS_total hne with g | g
    · exact g
    · rw [g] at this; cases this
  cases a with
  | none =>
    have hn0 : n = 0 := by
      rcases h.2 with ⟨_, h⟩ | ⟨g, cap, cur, hv, _⟩
      · exact h
      · cases hv
    subst hn0
    have hps : ps = [] := List.eq_nil_of_length_eq_zero hl
    subst hps
    refine (gsort_none c w).mono ?_
    rintro e w' ⟨rfl, rfl⟩
    exact ⟨rfl, ⟨[], List.Perm.refl _, List.Pairwise.nil, Has.nil _ _⟩, Go.RowKit.Below.refl _ _⟩
  | some p =>
    obtain ⟨g, rfl, hg, hg1, hfr⟩ := own_someG h
    have hS := gsort_any g 0 c ps w (has_of_owns h) (by rw [hl]; exact hfr) hg1 (by omega)
    rw [hl] at hS
    refine hS.mono ?_
    rintro e w' ⟨he, rs, h1, h2, h3, h4⟩
    exact ⟨he, ⟨rs, h1, rise rs h1 h2, h3⟩, h4 _ hg⟩
end Go.Proofs.Ytfnghinefbmlmaa
