/- Joined from: GIns3. -/
import Derived.Test.YtlgkikmmpnnnfaaJ01
import Derived.Test.YtlgkikmmpnnnfaaJ13
section

/- (*line.Line).Insert. Conditions: a line in memory; as many numbers as the slice says; sizes. -/
namespace Go.Proofs.Ytlgkikmmpnnnfaa
open Go.RowKit Go.Lib

theorem GStep.of_below' {B g : Nat} {a : Option Addr} {w w' : World} (h : Below w.heap.size w w') (hB : B ≤ w.heap.size) : GStep B g a a w w' := GStep.of_below h hB
def InsIs (B g : Nat) (a : Option Addr) (l : List (Int × Int)) (z : Int) (ids : List Int) (w : World) (e : Ending) (w' : World) : Prop :=
  ∃ a' c', e = .returned (.bool (okI l z)) ∧ GIs B g a' c' (insG l z ids) w' ∧ GStep B g a a' w w'
set_option maxHeartbeats 3200000 in
set_option maxRecDepth 100000 in
theorem gins_any (B g : Nat) (a : Option Addr) (c : Nat) (l : List (Int × Int)) (z : Int) (ai : Option Addr) (m ci : Nat) (ids : List Int) (w : World) (h : GIs B g a c l w) (hi : Has w ai (iv ids)) (hil : ids.length = m) (hB : B ≤ g) (hBw : B ≤ w.heap.size) (hn : l.length ≤ 1000000) (hm : m ≤ 1000000) :
    Calls Try.prog 119 #[.pointer (some ⟨g, 0, none⟩), .int .i64 z, .slice ai m ci] w (InsIs B g a l z ids w) := by
  have hAC := allocC
  have hAF := allocF
  have HG := Lib.hid h
  have hgw := (Array.getElem?_eq_some_iff.1 h.hd).1
  have q0 := cell_of_heap h.hd 0
  simp only [List.getElem?_toArray, List.getElem?_cons_zero] at q0
  unfold InsIs
  by_cases h0 : z < 0
  · have hok : okI l z = false := by simp [okI]; omega
    have hin : insG l z ids = l := by rw [insG, if_neg (by rw [hok]; decide)]
    have HI := Lib.hid hin
    rw [hok]
    clear hok hin h hi hil
    go_enter Try.func119, Try.ntmps119
    go_wp2_with fail
    go_ret
    exact ⟨a, c, rfl, by rw [HI.out]; exact HG.out, ⟨Below.refl _ _, fun _ _ _ _ => rfl, fun _ h => .inl h⟩⟩
  obtain ⟨i, rfl⟩ : ∃ i : Nat, z = i := ⟨z.toNat, by omega⟩
  clear h0
  by_cases hin : l.length < i
  · have hok : okI l (i : Nat) = false := by simp [okI]; omega
    have hine : insG l (i : Nat) ids = l := by rw [insG, if_neg (by rw [hok]; decide)]
    have HI := Lib.hid hine
    rw [hok]
    have hi9 : (l.length : Int) < (i : Int) := by omega
    clear hok hine h hi hil
    generalize l.length = n at *
    go_enter Try.func119, Try.ntmps119
    go_wp2_with fail
    go_ret
    exact ⟨a, c, rfl, by rw [HI.out]; exact HG.out, ⟨Below.refl _ _, fun _ _ _ _ => rfl, fun _ h => .inl h⟩⟩
  have hok : okI l (i : Nat) = true := by simp [okI]; omega
  have HI := Lib.hid (show insG l (i : Nat) ids = l.take i ++ ((ids.map fun x => (x, insC l i)) ++ l.drop i) by rw [insG, if_pos hok, Int.toNat_natCast])
  rw [hok]
  have HS := Lib.hid hi
  have HL := Lib.hid hil
  have hd1 : decide ((i : Int) < 0) = false := by simp
  have hd2 : decide ((l.length : Int) < (i : Int)) = false := by simp; omega
  have hgi := h.slice
  have hC := insC_at l i (by omega)
  clear hi hil hok
  obtain ⟨n, hnl⟩ : ∃ n, n = l.length := ⟨_, rfl⟩
  have HN := Lib.hid hnl
  rw [← hnl] at q0 hn hin hd2 hC
  by_cases hlt : i < n
  ·
    have HAt := Lib.hid (fun W (hW : Below w.heap.size w W) => gat_any B g a c l W (h.below hW) (i : Nat))
    rw [show min (i : Int) ((n : Int) - 1) = (i : Nat) by omega] at hC
    obtain ⟨⟨x0, x1⟩, hx⟩ : ∃ x, x = atG l (i : Nat) := ⟨_, rfl⟩
    rw [← hx] at HAt hC
    simp only [glyphA] at HAt hC
    have HC := Lib.hid hC
    have hm1 : ¬ ((n : Int) - 1 < (i : Int)) := by omega
    clear hx hC h hnl

    obtain ⟨R, hR⟩ : ∃ R, R = l.take i ++ ((ids.map fun x => (x, insC l i)) ++ l.drop i) := ⟨_, rfl⟩
    rw [← hR] at HI
    rw [HC.out] at hR
    have HRR := Lib.hid hR
    have hle : i ≤ n := by omega
    clear hR
    go_enter Try.func119, Try.ntmps119
    go_wp2_with (first
      | (go_at_call 50; (with_reducible refine (HAt.out _ (by exact blw)).mono ?_); rintro e w1 ⟨rfl, hb1⟩; have h1c := bc hb1; have h1f := bf hb1; have h1z := hb1.size; try simp only [World.size_alloc, World.size_drew] at h1z)
      | (refine wpMake _ rfl _ _ 41 rfl w.heap.size 59 (.agg #[.int .i64 0, .int .i64 0]) 2 16 Try.underlying41 info_glyph m rfl rfl (by omega) (by unfold maxLen; omega) (by simp; omega) ?_; intro w2 hown hb2; rw [made_glyph, ← HL.out, ← partF_zero ids x1, HL.out, World.size_alloc] at hown; rw [World.size_alloc]; have HO2 := Lib.hid hown; have HN2 := Lib.hid (show w2.cell? ⟨w1.heap.size, 1, none⟩ = some (.int .i64 x1) by rw [hb2.cell (p := ⟨w1.heap.size, 1, none⟩) (by simp), hAC, if_pos rfl]; rfl); have HB2 := Lib.hid (show Below w.heap.size w w2 from ((balloc hb1 _).trans (hb2.mono (by simp; omega)))); have hz2 : w1.heap.size + 1 ≤ w2.heap.size := (by have := hb2.size; simpa using this); clear hown hb2))
    clear h1c h1f hAC hAF HAt
    go_loopw [41] (fun i wr => ∃ j : Nat, j ≤ m ∧ i = .int .i64 (j : Nat) ∧ wr.ownsRow w.heap.size 59 2 (.slice (some ⟨w1.heap.size + 1, 0, none⟩) m m) m (gv (partF ids x1 j)) ∧ Below (w1.heap.size + 1) w2 wr) (fun i _ => m - (Go.RowKit.intOf i).toNat)
    case atStart => exact ⟨0, Nat.zero_le _, rfl, HO2.out, Below.refl _ _⟩
    case round =>
      obtain ⟨j, hj, rfl, hx, hb⟩ := hrel
      have HX := Lib.hid hx
      have HB := Lib.hid hb
      have HBW := Lib.hid (HB2.out.trans (hb.mono (by omega)))
      have hzr := hb.size
      have hcn := (hb.cell (p := ⟨w1.heap.size, 1, none⟩) (by simp)).trans HN2.out
      clear hx hb
      by_cases hlj : j < m
      · obtain ⟨gi, oi, z, rfl, hgi, hz, hci⟩ := iv_at (HS.out.below HBW.out) (k := j) (by rw [HL.out]; exact hlj)
        obtain ⟨g2, cs2, u2, he, _, hh2, hc2, _, f2, hs2⟩ := row_at HX.out (j * 2) (by omega)
        obtain ⟨g3, cs3, u3, he3, _, hh3, hc3, _, f3, hs3⟩ := row_at (hs2 (.int .i64 z)) (j * 2 + 1) (by omega)
        cases he
        cases he3
        have hc3' : ∃ u, wr.cell? ⟨w1.heap.size + 1, j * 2 + 1, none⟩ = some u := by
          obtain ⟨_, _, u, he, _, _, hc, _⟩ := row_at HX.out (j * 2 + 1) (by omega)
          cases he
          exact ⟨u, hc⟩
        obtain ⟨u3', hc3'⟩ := hc3'
        have f3' : wr.frozen? ⟨w1.heap.size + 1, j * 2 + 1, none⟩ = false := by
          obtain ⟨_, _, u, he, _, _, _, _, hf, _⟩ := row_at HX.out (j * 2 + 1) (by omega)
          cases he
          exact hf
        have hs := hs3 (.int .i64 x1)
        rw [gv_set, partF_set ids x1 j z hz] at hs
        have HSX := Lib.hid hs
        have HB3 := Lib.hid ((HB.out.setCell (p := ⟨w1.heap.size + 1, j * 2, none⟩) (Nat.le_refl _) (.int .i64 z)).setCell (p := ⟨w1.heap.size + 1, j * 2 + 1, none⟩) (Nat.le_refl _) (.int .i64 x1))
        clear hs hs2 hs3 hh2 hh3 hc3 f3 hz
        go_wp2_with fail
        go_roundw
        case rel => exact ⟨j + 1, hlj, by go_num, HSX.out, HB3.out⟩
        case measure => simp [Go.RowKit.intOf]; omega
      · obtain rfl : m = j := by omega
        have ho := HX.out
        rw [← HL.out, partF_all, HL.out] at ho
        have HGR := Lib.hid (HG.out.below HBW.out)
        have hgr := HGR.out
        have q0r := cell_of_heap hgr.hd 0
        rw [← HN.out] at q0r
        simp only [List.getElem?_toArray, List.getElem?_cons_zero] at q0r
        have hSI := sins_any B a n c i (w1.heap.size + 1) m m l (ids.map fun x => (x, x1)) wr (by rw [HN.out]; exact hgr.row) HN.out.symm (owns_mono ho (Nat.zero_le _)) (by simp [HL.out]) (fun p hp => by
          have := HG.out.row.lt p.block (by rw [hp]; rfl)
          omega) hle hn hm (by omega)
        rw [← HRR.out] at hSI
        have HSI := Lib.hid hSI
        clear ho hgr hSI HX HN2 HO2 hcn
        go_wp2_with (go_at_call 129; (with_reducible refine HSI.out.mono ?_); rintro e w5 ⟨a5, c5, rfl, ho5, hr5⟩; have HO5 := Lib.hid ho5; have HR5 := Lib.hid hr5; have hg5 := (hr5.keep g (by omega) (fun e => by cases a with | none => cases e | some p => injection e with e; exact own_neE HGR.out.row HGR.out.hd (by decide) (by rw [e]; rfl))).trans HGR.out.hd; have q5 := cell_of_heap hg5 0; have f5 := froz_of_heap hg5 0; have HH5 := Lib.hid hg5; clear ho5 hr5 hg5; simp only [List.getElem?_toArray, List.getElem?_cons_zero] at q5)
        go_ret
        have hRl : R.length = n + m := by
          have h1 := HO5.out.1
          rw [gv_length] at h1
          omega
        refine ⟨a5, c5, rfl, ⟨?_, ?_⟩, ?_⟩
        · rw [HI.out, set_heap_at _ HH5.out, hRl]
          rfl
        · rw [HI.out, hRl]
          exact set_owns _ HO5.out (own_neE HO5.out HH5.out (by decide))
        · exact (GStep.of_below' HBW.out hBw).trans (GStep.of_row HR5.out hB _)
  ·
    have HAt := Lib.hid (fun W (hW : Below w.heap.size w W) => gat_any B g a c l W (h.below hW) ((n : Int) - 1))
    rw [show min (i : Int) ((n : Int) - 1) = ((n : Int) - 1) by omega] at hC
    obtain ⟨⟨x0, x1⟩, hx⟩ : ∃ x, x = atG l ((n : Int) - 1) := ⟨_, rfl⟩
    rw [← hx] at HAt hC
    simp only [glyphA] at HAt hC
    have HC := Lib.hid hC
    obtain rfl : n = i := by omega
    have hm1 : (n : Int) - 1 < (n : Int) := by omega
    clear hd2
    have hd2 : decide ((n : Int) < (n : Int)) = false := by simp
    clear hx hC h hnl

    obtain ⟨R, hR⟩ : ∃ R, R = l.take n ++ ((ids.map fun x => (x, insC l n)) ++ l.drop n) := ⟨_, rfl⟩
    rw [← hR] at HI
    rw [HC.out] at hR
    have HRR := Lib.hid hR
    have hle : n ≤ n := by omega
    clear hR
    go_enter Try.func119, Try.ntmps119
    go_wp2_with (first
      | (go_at_call 50; (with_reducible refine (HAt.out _ (by exact blw)).mono ?_); rintro e w1 ⟨rfl, hb1⟩; have h1c := bc hb1; have h1f := bf hb1; have h1z := hb1.size; try simp only [World.size_alloc, World.size_drew] at h1z)
      | (refine wpMake _ rfl _ _ 41 rfl w.heap.size 59 (.agg #[.int .i64 0, .int .i64 0]) 2 16 Try.underlying41 info_glyph m rfl rfl (by omega) (by unfold maxLen; omega) (by simp; omega) ?_; intro w2 hown hb2; rw [made_glyph, ← HL.out, ← partF_zero ids x1, HL.out, World.size_alloc] at hown; rw [World.size_alloc]; have HO2 := Lib.hid hown; have HN2 := Lib.hid (show w2.cell? ⟨w1.heap.size, 1, none⟩ = some (.int .i64 x1) by rw [hb2.cell (p := ⟨w1.heap.size, 1, none⟩) (by simp), hAC, if_pos rfl]; rfl); have HB2 := Lib.hid (show Below w.heap.size w w2 from ((balloc hb1 _).trans (hb2.mono (by simp; omega)))); have hz2 : w1.heap.size + 1 ≤ w2.heap.size := (by have := hb2.size; simpa using this); clear hown hb2))
    clear h1c h1f hAC hAF HAt
    go_loopw [41] (fun i wr => ∃ j : Nat, j ≤ m ∧ i = .int .i64 (j : Nat) ∧ wr.ownsRow w.heap.size 59 2 (.slice (some ⟨w1.heap.size + 1, 0, none⟩) m m) m (gv (partF ids x1 j)) ∧ Below (w1.heap.size + 1) w2 wr) (fun i _ => m - (Go.RowKit.intOf i).toNat)
    case atStart => exact ⟨0, Nat.zero_le _, rfl, HO2.out, Below.refl _ _⟩
    case round =>
      obtain ⟨j, hj, rfl, hx, hb⟩ := hrel
      have HX := Lib.hid hx
      have HB := Lib.hid hb
      have HBW := Lib.hid (HB2.out.trans (hb.mono (by omega)))
      have hzr := hb.size
      have hcn := (hb.cell (p := ⟨w1.heap.size, 1, none⟩) (by simp)).trans HN2.out
      clear hx hb
      by_cases hlj : j < m
      · obtain ⟨gi, oi, z, rfl, hgi, hz, hci⟩ := iv_at (HS.out.below HBW.out) (k := j) (by rw [HL.out]; exact hlj)
        obtain ⟨g2, cs2, u2, he, _, hh2, hc2, _, f2, hs2⟩ := row_at HX.out (j * 2) (by omega)
        obtain ⟨g3, cs3, u3, he3, _, hh3, hc3, _, f3, hs3⟩ := row_at (hs2 (.int .i64 z)) (j * 2 + 1) (by omega)
        cases he
        cases he3
        have hc3' : ∃ u, wr.cell? ⟨w1.heap.size + 1, j * 2 + 1, none⟩ = some u := by
          obtain ⟨_, _, u, he, _, _, hc, _⟩ := row_at HX.out (j * 2 + 1) (by omega)
          cases he
          exact ⟨u, hc⟩
        obtain ⟨u3', hc3'⟩ := hc3'
        have f3' : wr.frozen? ⟨w1.heap.size + 1, j * 2 + 1, none⟩ = false := by
          obtain ⟨_, _, u, he, _, _, _, _, hf, _⟩ := row_at HX.out (j * 2 + 1) (by omega)
          cases he
          exact hf
        have hs := hs3 (.int .i64 x1)
        rw [gv_set, partF_set ids x1 j z hz] at hs
        have HSX := Lib.hid hs
        have HB3 := Lib.hid ((HB.out.setCell (p := ⟨w1.heap.size + 1, j * 2, none⟩) (Nat.le_refl _) (.int .i64 z)).setCell (p := ⟨w1.heap.size + 1, j * 2 + 1, none⟩) (Nat.le_refl _) (.int .i64 x1))
        clear hs hs2 hs3 hh2 hh3 hc3 f3 hz
        go_wp2_with fail
        go_roundw
        case rel => exact ⟨j + 1, hlj, by go_num, HSX.out, HB3.out⟩
        case measure => simp [Go.RowKit.intOf]; omega
      · obtain rfl : m = j := by omega
        have ho := HX.out
        rw [← HL.out, partF_all, HL.out] at ho
        have HGR := Lib.hid (HG.out.below HBW.out)
        have hgr := HGR.out
        have q0r := cell_of_heap hgr.hd 0
        rw [← HN.out] at q0r
        simp only [List.getElem?_toArray, List.getElem?_cons_zero] at q0r
        have hSI := sins_any B a n c n (w1.heap.size + 1) m m l (ids.map fun x => (x, x1)) wr (by rw [HN.out]; exact hgr.row) HN.out.symm (owns_mono ho (Nat.zero_le _)) (by simp [HL.out]) (fun p hp => by
          have := HG.out.row.lt p.block (by rw [hp]; rfl)
          omega) hle hn hm (by omega)
        rw [← HRR.out] at hSI
        have HSI := Lib.hid hSI
        clear ho hgr hSI HX HN2 HO2 hcn
        go_wp2_with (go_at_call 129; (with_reducible refine HSI.out.mono ?_); rintro e w5 ⟨a5, c5, rfl, ho5, hr5⟩; have HO5 := Lib.hid ho5; have HR5 := Lib.hid hr5; have hg5 := (hr5.keep g (by omega) (fun e => by cases a with | none => cases e | some p => injection e with e; exact own_neE HGR.out.row HGR.out.hd (by decide) (by rw [e]; rfl))).trans HGR.out.hd; have q5 := cell_of_heap hg5 0; have f5 := froz_of_heap hg5 0; have HH5 := Lib.hid hg5; clear ho5 hr5 hg5; simp only [List.getElem?_toArray, List.getElem?_cons_zero] at q5)
        go_ret
        have hRl : R.length = n + m := by
          have h1 := HO5.out.1
          rw [gv_length] at h1
          omega
        refine ⟨a5, c5, rfl, ⟨?_, ?_⟩, ?_⟩
        · rw [HI.out, set_heap_at _ HH5.out, hRl]
          rfl
        · rw [HI.out, hRl]
          exact set_owns _ HO5.out (own_neE HO5.out HH5.out (by decide))
        · exact (GStep.of_below' HBW.out hBw).trans (GStep.of_row HR5.out hB _)
end Go.Proofs.Ytlgkikmmpnnnfaa
end
