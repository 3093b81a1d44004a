
/- Package pick: which types are exclusive, and what settings share. Conditions: as each says. -/
import Derived.Test.YtfnghinefbmlmaaPickM
namespace Go.Proofs.Ytfnghinefbmlmaa
open Go.RowKit Go.Lib

theorem fent_cells {w : World} {a : Option Addr} {fs : List FEnt} (h : Has w a (fents fs)) {k : Nat} {f : FEnt} (hf : fs[k]? = some f) :
    ∃ b o, a = some ⟨b, o, none⟩ ∧ b < w.heap.size ∧ w.cell? ⟨b, o + k * 4, none⟩ = some (.int .i64 (f.ty : Nat)) ∧ w.cell? ⟨b, o + k * 4 + 1, none⟩ = some (.bool f.ex) ∧ w.cell? ⟨b, o + k * 4 + 2, none⟩ = some (.int .i64 f.df) ∧ w.cell? ⟨b, o + k * 4 + 3, none⟩ = some f.s := by
  have g0 := fents_get fs k f hf 0 (by omega)
  obtain ⟨b, o, rfl, hb, hc⟩ := h.get (by
    rcases Nat.eq_zero_or_pos (fents fs).length with g | g
    · rw [List.getElem?_eq_none (by omega)] at g0
      simp [FEnt.enc] at g0
    · exact g)
  refine ⟨b, o, rfl, hb, hc (k * 4) _ g0, ?_, ?_, ?_⟩
  · have := hc (k * 4 + 1) _ (fents_get fs k f hf 1 (by omega)); rwa [← Nat.add_assoc] at this
  · have := hc (k * 4 + 2) _ (fents_get fs k f hf 2 (by omega)); rwa [← Nat.add_assoc] at this
  · have := hc (k * 4 + 3) _ (fents_get fs k f hf 3 (by omega)); rwa [← Nat.add_assoc] at this
theorem take_snoc {α : Type} {l : List α} {k : Nat} {x : α} (h : l[k]? = some x) : l.take (k + 1) = l.take k ++ [x] := by rw [List.take_add_one, h]; rfl
set_option maxHeartbeats 1000000 in
theorem exclusive_any (a : Option Addr) (n c : Nat) (fs : List FEnt) (w : World) (h : Has w a (fents fs)) (hn : fs.length = n) (hn2 : n ≤ 65535) (hty : ∀ f ∈ fs, f.ty ≤ 65535 ∧ ∃ a m c, f.s = .slice a m c) :
    Calls Try.prog 32 #[.slice a n c] w fun e w' => e = .returned (.map (some w.heap.size)) ∧ (∃ D, w'.ownsMap Try.prog 3 boolR w.heap.size n D ∧ SaysI D (exF fs)) ∧ Below w.heap.size w w' := by
  have hAC := allocC
  have hAF := allocF
  have hmm := @run_makeMap Try.prog
  have HH := Lib.hid h
  have HT := Lib.hid hty
  have HN := Lib.hid hn
  clear h hty hn
  go_enter Try.func32, Try.ntmps32
  go_wp2_with fail
  go_loopw [9] (fun i wr => ∃ (k : Nat), k ≤ n ∧ i = .int .i64 (k : Nat) ∧ (∃ D, wr.ownsMap Try.prog 3 boolR w.heap.size k D ∧ SaysI D (exF (fs.take k))) ∧ Below w.heap.size w wr) (fun i _ => n - (intOf i).toNat)
  case atStart => exact ⟨0, Nat.zero_le _, rfl, ⟨.map [], World.ownsMap_made _ _ _ _, by simpa using says_start⟩, blw⟩
  case round =>
    obtain ⟨k, hk, rfl, ⟨D, hown, hsays⟩, hb⟩ := hrel
    have HB := Lib.hid hb
    have HO := Lib.hid hown
    have HS := Lib.hid hsays
    clear hb hown hsays
    by_cases hlt : k < n
    · obtain ⟨f, hf⟩ : ∃ f, fs[k]? = some f := ⟨_, List.getElem?_eq_getElem (by rw [HN.out]; exact hlt)⟩
      have HF := Lib.hid (take_snoc hf)
      obtain ⟨hft, sa, sm, sc, hfs⟩ := HT.out f (List.mem_of_getElem? hf)
      obtain ⟨b, o, ha, hbl, c0, c1, c2, c3⟩ := fent_cells (HH.out.below HB.out) hf
      subst ha
      rw [hfs] at c3
      clear hf hfs
      cases hx : f.ex with
      | false =>
        have HNX := Lib.hid (says_skip HS.out hx)
        rw [hx] at c1
        clear hx
        go_wp2_with fail
        go_roundw
        case rel => exact ⟨k + 1, hlt, by go_num, ⟨D, ((HO.out.alloc _).mono (Nat.le_succ _)), by rw [HF.out]; exact HNX.out⟩, balloc HB.out _⟩
        case measure => simp [intOf]; omega
      | true =>
        have HNX := Lib.hid (says_put HS.out hx)
        rw [hx] at c1
        clear hx
        generalize hTY : f.ty = ty at *
        have HK := Lib.hid (keyI (n := (ty : Int)) (wfI_of (by omega) (by omega)))
        go_wp2_with (first | (at_mapUpdate; refine wpList_mapUpdate_own _ rfl _ _ _ 75 rfl 3 4 lawI Try.underlying75 boolR w.heap.size k D rfl (HO.out.alloc _) (by unfold maxLen; omega) _ _ _ rfl rfl HK.out _ [] (boolR_mk true) ?_; intro w1 hown1 hgrow1; have HO1 := Lib.hid hown1; have HG1 := Lib.hid hgrow1; clear hown1 hgrow1))
        go_roundw
        case rel => exact ⟨k + 1, hlt, by go_num, ⟨_, HO1.out, by rw [HF.out]; exact HNX.out⟩, (balloc HB.out _).grown HG1.out (balloc HB.out _).size (fun j hj => by cases hj; exact Nat.le_refl _)⟩
        case measure => simp [intOf]; omega
    · obtain rfl : n = k := by omega
      have hall : fs.take n = fs := List.take_of_length_le (by rw [HN.out]; exact Nat.le_refl _)
      rw [hall] at HS
      clear hall
      go_wp2_with fail
      go_ret
      exact ⟨rfl, ⟨D, HO.out, HS.out⟩, HB.out⟩
theorem shared_any (ex : Int → Bool) (s : St) (x : Bool) (w : World) (hx : ex s.1 = x) (hr : rightS s = true) :
    Calls Try.prog 33 #[.agg #[.int .i64 s.1, .int .i64 s.2], .bool x] w fun e w' => e = .returned (.agg #[.int .i64 (shareS ex s).1, .int .i64 (shareS ex s).2]) ∧ Below w.heap.size w w' := by
  have hAC := allocC
  have hAF := allocF
  have hb := right_b hr
  have hs : shareS ex s = if x then (s.1, 0) else (s.1, s.2.tdiv 2) := by unfold shareS; rw [hx]
  rw [hs]
  obtain ⟨p, q⟩ := s
  clear hs hx hr
  cases x with
  | true =>
    go_enter Try.func33, Try.ntmps33
    go_wp2_with fail
    try simp only [Exit.inBlock, Exit.then]
    refine bodyPost_ret (v := .agg #[.int .i64 p, .int .i64 0]) (by simp [results, Try.results33, go_sem, hAC]) rfl ⟨rfl, ?_⟩
    exact blw
  | false =>
    simp only at hb
    have hq : q.tdiv 2 = q / 2 := Int.tdiv_eq_ediv_of_nonneg (by omega)
    simp only [Bool.false_eq_true, if_false, hq]
    clear hq
    go_enter Try.func33, Try.ntmps33
    go_wp2_with fail
    try simp only [Exit.inBlock, Exit.then]
    refine bodyPost_ret (v := .agg #[.int .i64 p, .int .i64 (q / 2)]) (by simp [results, Try.results33, go_sem, hAC]) rfl ⟨rfl, ?_⟩
    exact blw
end Go.Proofs.Ytfnghinefbmlmaa
