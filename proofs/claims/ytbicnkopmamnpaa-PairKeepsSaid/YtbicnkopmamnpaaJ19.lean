/- Joined from: PrRef PrRefG. -/
import Derived.Test.YtbicnkopmamnpaaJ01
import Derived.Test.YtbicnkopmamnpaaJ17
import Derived.Test.YtbicnkopmamnpaaJ02
import Derived.Test.YtbicnkopmamnpaaJ18
import Derived.Test.YtbicnkopmamnpaaJ11
import Derived.Deep.WholeRow
section

/- The document's Read of subtables of distances. Conditions: bytes as the slice says; sizes. -/
namespace Go.Proofs.Ytbicnkopmamnpaa
open Go.RowKit Go.Lib

/-- The document's Read found none. -/
def NoT (e : Ending) : Prop := ∃ (i0 i1 i2 i3 : Int) (a4 a5 a6 a7 a8 a9 : Option Addr) (n4 c4 n5 c5 n6 c6 n7 c7 n8 c8 n9 c9 : Nat), e = .returned (.tuple #[.agg #[.int .i64 i0, .int .i64 i1, .int .i64 i2, .int .i64 i3, .slice a4 n4 c4, .slice a5 n5 c5, .slice a6 n6 c6, .slice a7 n7 c7, .slice a8 n8 c8, .slice a9 n9 c9], .bool false])
theorem noT {i0 i1 i2 i3 : Int} {a4 a5 a6 a7 a8 a9 : Option Addr} {n4 c4 n5 c5 n6 c6 n7 c7 n8 c8 n9 c9 : Nat} : NoT (.returned (.tuple #[.agg #[.int .i64 i0, .int .i64 i1, .int .i64 i2, .int .i64 i3, .slice a4 n4 c4, .slice a5 n5 c5, .slice a6 n6 c6, .slice a7 n7 c7, .slice a8 n8 c8, .slice a9 n9 c9], .bool false])) := ⟨_, _, _, _, _, _, _, _, _, _, _, _, _, _, _, _, _, _, _, _, _, _, rfl⟩
def qU (bs : List UInt8) (k : Nat) : Int := if k + 4 ≤ bs.length then ((num bs k 4 : Nat) : Int) else -1
theorem qU_bound (bs : List UInt8) (k : Nat) : -1 ≤ qU bs k ∧ qU bs k ≤ 4294967295 := by
  have := num4_lt bs k
  unfold qU
  split <;> omega
theorem qU_any (a : Option Addr) (n c : Nat) (bs : List UInt8) (k : Nat) (z : Int) (hz : z = (k : Nat)) (w : World) (h : Has w a (bytesV bs)) (hl : bs.length = n) (hn : n ≤ maxLen) (hk : k ≤ 1000000000000) :
    Calls Try.prog 70 #[.slice a n c, .int .i64 z, .int .i64 4] w fun e w' => e = .returned (.int .i64 (qU bs k)) ∧ w = w' := by
  subst hz
  unfold qU
  rw [hl]
  split
  · exact u_in a n c k 4 bs w h hl (by assumption) (by decide) hn
  · exact u_out a n c 4 (k : Nat) w (by omega) (by omega) (by decide) hn
set_option maxRecDepth 100000 in
set_option maxHeartbeats 12800000 in
theorem prefL_any (a : Option Addr) (n c : Nat) (bs : List UInt8) (zg : Int) (w : World) (h : Has w a (bytesV bs)) (hl : bs.length = n) (hn : n ≤ c) (hc : c ≤ maxLen) (h20 : n ≤ 4000) :
    Calls Try.prog 54 #[.int .i64 0, .slice a n c, .int .i64 zg] w fun e w' => ((PListOk bs ∧ e = .returned (.tuple #[.agg #[.int .i64 0, .int .i64 (num bs 0 4 : Nat), .int .i64 2, .int .i64 1, .slice a n c, .slice none 0 0, .slice none 0 0, .slice none 0 0, .slice none 0 0, .slice none 0 0], .bool true])) ∨ (¬ PListOk bs ∧ NoT e)) ∧ Below w.heap.size w w' := by
  have hAC := allocC
  have hAF := allocF
  have hnm : n ≤ maxLen := Nat.le_trans hn hc
  have HU := Lib.hid (fun (k : Nat) (z : Int) (hz : z = (k : Nat)) (hk : k ≤ 1000000000000) (W : World) (hW : Below w.heap.size w W) => qU_any a n c bs k z hz W (h.below hW) hl hnm hk)
  have hqb := qU_bound bs 0
  obtain ⟨Q, hQ⟩ : ∃ Q, Q = qU bs 0 := ⟨_, rfl⟩
  have HU0 := Lib.hid (HU.out 0 0 rfl (by decide))
  rw [← hQ] at HU0 hqb
  have HQ := Lib.hid hQ
  have HL := Lib.hid hl
  obtain ⟨B0, hB0⟩ : ∃ B : Bool, (B = true ↔ fitK n 2 16 Q 6) := by
    by_cases h : fitK n 2 16 Q 6
    · exact ⟨true, by simp [h]⟩
    · exact ⟨false, by simp [h]⟩
  have HRW := Lib.hid (fun W => rref_any n 16 Q 6 B0 hB0 W hnm (by decide) (by omega) (by decide))
  have hfit : B0 = true ↔ 16 + 6 * num bs 0 4 ≤ n := by
    rw [hB0]
    have h4 := num4_lt bs 0
    simp only [fitK]
    rw [hQ]
    unfold qU
    rw [hl]
    by_cases hu : 0 + 4 ≤ n
    · rw [if_pos hu, Int.toNat_natCast, show (16 : Int).toNat = 16 from rfl, show (6 : Int).toNat = 6 from rfl]
      omega
    · rw [if_neg hu]
      omega
  have HFIT := Lib.hid hfit
  clear h hl hQ hB0 hfit
  obtain ⟨W, hW⟩ : ∃ W, W = (w.alloc (Obj.cells #[.int .i64 0, .int .i64 0, .int .i64 0, .int .i64 0, .slice none 0 0, .slice none 0 0, .slice none 0 0, .slice none 0 0, .slice none 0 0, .slice none 0 0] 104)).alloc (Obj.cells #[.int .i64 0, .int .i64 0, .int .i64 2, .int .i64 1, .slice a n c, .slice none 0 0, .slice none 0 0, .slice none 0 0, .slice none 0 0, .slice none 0 0] 104) := ⟨_, rfl⟩
  have hbW : Below w.heap.size w W := by rw [hW]; exact balloc (balloc (brefl w) _) _
  have hz : W.heap.size = w.heap.size + 2 := by rw [hW]; simp
  have x6 : W.heap[w.heap.size]? = some (.cells #[.int .i64 0, .int .i64 0, .int .i64 0, .int .i64 0, .slice none 0 0, .slice none 0 0, .slice none 0 0, .slice none 0 0, .slice none 0 0, .slice none 0 0] 104 (0, 0)) := by rw [hW, heap_push, if_neg (by simp), heap_push, if_pos rfl]
  have x8 : W.heap[w.heap.size + 1]? = some (.cells #[.int .i64 0, .int .i64 0, .int .i64 2, .int .i64 1, .slice a n c, .slice none 0 0, .slice none 0 0, .slice none 0 0, .slice none 0 0, .slice none 0 0] 104 (0, 0)) := by rw [hW, heap_push, if_pos (by simp)]
  obtain ⟨V, hV⟩ : ∃ V, V = W.setCell ⟨w.heap.size + 1, 1, none⟩ (.int .i64 Q) := ⟨_, rfl⟩
  have y8 : V.heap[w.heap.size + 1]? = some (.cells #[.int .i64 0, .int .i64 Q, .int .i64 2, .int .i64 1, .slice a n c, .slice none 0 0, .slice none 0 0, .slice none 0 0, .slice none 0 0, .slice none 0 0] 104 (0, 0)) := by rw [hV]; exact set_heap_at (o := 1) _ x8
  have y6 : V.heap[w.heap.size]? = some (.cells #[.int .i64 0, .int .i64 0, .int .i64 0, .int .i64 0, .slice none 0 0, .slice none 0 0, .slice none 0 0, .slice none 0 0, .slice none 0 0, .slice none 0 0] 104 (0, 0)) := by rw [hV]; exact (set_heap_other _ (by omega)).trans x6
  have hbV : Below w.heap.size w V := by rw [hV]; exact hbW.setCell (p := ⟨w.heap.size + 1, 1, none⟩) (Nat.le_succ _) _
  have q8 := fun o => cell_of_heap x8 o
  have f8 := fun o => froz_of_heap x8 o
  have l8 := (Array.getElem?_eq_some_iff.1 x8).1
  have HBW := Lib.hid hbW
  have HBV := Lib.hid hbV
  have Y8 := Lib.hid y8
  have Y6 := Lib.hid y6
  clear hbW hbV y8 y6 x6 x8 hz
  go_enter Try.func54, Try.ntmps54
  go_wp2_with fail
  rw [← hW]
  clear hW
  refine (HU0.out W HBW.out).mono ?_
  rintro e w_ ⟨rfl, rfl⟩
  go_wp2_with fail
  rw [← hV]
  clear hV q8 f8 l8
  refine (HRW.out V).mono ?_
  rintro e w_ ⟨rfl, rfl⟩
  have q8 := fun o => cell_of_heap Y8.out o
  have l8 := (Array.getElem?_eq_some_iff.1 Y8.out).1
  go_wp2_with fail
  go_loopw [9, 10] (fun o i wr => ∃ (j : Nat) (b : Bool), o = .bool b ∧ i = .int .i64 (j : Nat) ∧ 1 ≤ j ∧ j ≤ n + 1 ∧ (b = true → 16 + 6 * num bs 0 4 ≤ n ∧ ∀ i, i + 1 < j → num bs (16 + 6 * i) 4 < num bs (16 + 6 * (i + 1)) 4) ∧ (b = false → ¬ PListOk bs) ∧ wr = V) (fun _ i _ => n + 2 - (Go.RowKit.intOf i).toNat)
  case atStart => exact ⟨1, B0, rfl, rfl, Nat.le_refl _, by omega, fun h => ⟨HFIT.out.1 h, fun i hi => by omega⟩, fun h hk => (by
    have := hk.len
    rw [HL.out] at this
    rw [HFIT.out.2 this] at h
    cases h), rfl⟩
  case round =>
    obtain ⟨j, b, rfl, rfl, hj1, hj2, hbt, hbf, rfl⟩ := hrel
    have HBT := Lib.hid hbt
    have HBF := Lib.hid hbf
    clear hbt hbf
    by_cases hlt : (j : Int) < Q
    · cases b with
      | false =>
        have HNO := Lib.hid (HBF.out rfl)
        have d1 : decide ((j : Int) < Q) = true := by simpa using hlt
        have z6 := heap10_at Y6.out (.int .i64 0) (.int .i64 Q) (.int .i64 2) (.int .i64 1) (.slice a n c) (.slice none 0 0) (.slice none 0 0) (.slice none 0 0) (.slice none 0 0) (.slice none 0 0)
        have r6 := fun o => cell_of_heap z6 o
        have f6 := fun o => froz_of_heap Y6.out o
        have q6 := fun o => cell_of_heap Y6.out o
        have l6 := (Array.getElem?_eq_some_iff.1 Y6.out).1
        go_wp2_with fail
        refine bodyPost_ret (v := .tuple #[.agg #[.int .i64 0, .int .i64 Q, .int .i64 2, .int .i64 1, .slice a n c, .slice none 0 0, .slice none 0 0, .slice none 0 0, .slice none 0 0, .slice none 0 0], .bool false]) (by simp [results, Try.results54, go_sem, r6]) rfl ?_
        exact ⟨.inr ⟨HNO.out, noT⟩, below10 HBV.out (Nat.le_refl _) _ _ _ _ _ _ _ _ _ _⟩
      | true =>
        obtain ⟨hfit, hri⟩ := HBT.out rfl
        have hNQ : Q = ((num bs 0 4 : Nat) : Int) := by
          have h1 := HQ.out
          unfold qU at h1
          rw [HL.out] at h1
          rw [if_pos (by omega)] at h1
          exact h1
        have hjN : j < num bs 0 4 := by omega
        obtain ⟨k, rfl⟩ : ∃ k, j = k + 1 := ⟨j - 1, by omega⟩
        have hu1 := HU.out (16 + 6 * k)
        have hu2 := HU.out (16 + 6 * (k + 1))
        have e1 : qU bs (16 + 6 * k) = ((num bs (16 + 6 * k) 4 : Nat) : Int) := by unfold qU; rw [if_pos (by rw [HL.out]; omega)]
        have e2 : qU bs (16 + 6 * (k + 1)) = ((num bs (16 + 6 * (k + 1)) 4 : Nat) : Int) := by unfold qU; rw [if_pos (by rw [HL.out]; omega)]
        rw [e1] at hu1
        rw [e2] at hu2
        obtain ⟨x, hx⟩ : ∃ x, x = num bs (16 + 6 * k) 4 := ⟨_, rfl⟩
        obtain ⟨y, hy⟩ : ∃ y, y = num bs (16 + 6 * (k + 1)) 4 := ⟨_, rfl⟩
        rw [← hx] at hu1
        rw [← hy] at hu2
        have HU1 := Lib.hid hu1
        have HU2 := Lib.hid hu2
        have d1 : decide (((k + 1 : Nat) : Int) < Q) = true := by simpa using hlt
        have d1' : decide ((k : Int) + 1 < Q) = true := by simp; omega
        have w1 : IntKind.i64.wrap ((k : Int) + 1 - 1) = (k : Int) := by rw [IntWalk.i64_in _ (by omega)]; omega
        have w2 : IntKind.i64.wrap (6 * (k : Int)) = 6 * (k : Int) := IntWalk.i64_in _ (by omega)
        have w3 : IntKind.i64.wrap (16 + 6 * (k : Int)) = 16 + 6 * (k : Int) := IntWalk.i64_in _ (by omega)
        have w4 : IntKind.i64.wrap (6 * ((k : Int) + 1)) = 6 * ((k : Int) + 1) := IntWalk.i64_in _ (by omega)
        have w5 : IntKind.i64.wrap (16 + 6 * ((k : Int) + 1)) = 16 + 6 * ((k : Int) + 1) := IntWalk.i64_in _ (by omega)
        have w6 : IntKind.i64.wrap ((k : Int) + 1 + 1) = (k : Int) + 1 + 1 := IntWalk.i64_in _ (by omega)
        have HRI := Lib.hid hri
        have HX := Lib.hid hx
        have HY := Lib.hid hy
        clear hri hx hy hu1 hu2 e1 e2 hNQ
        have dxy : decide ((x : Int) < (y : Int)) = decide (x < y) := by simp
        go_wp2_with (first
          | (go_at_call 70; (with_reducible refine (HU1.out _ (by omega) (by omega) _ HBV.out).mono ?_); rintro e w_ ⟨rfl, rfl⟩)
          | (go_at_call 70; (with_reducible refine (HU2.out _ (by omega) (by omega) _ HBV.out).mono ?_); rintro e w_ ⟨rfl, rfl⟩))
        go_roundw
        case rel =>
          refine ⟨k + 2, decide (x < y), by first | rfl | (rw [dxy]), by go_num, by omega, by omega, fun h => ⟨hfit, fun i hi => ?_⟩, fun h hk => ?_, trivial⟩
          · by_cases e : i = k
            · subst e
              rw [← HX.out, ← HY.out]
              exact of_decide_eq_true h
            · exact HRI.out i (by omega)
          · have := hk.rise k hjN
            rw [← HX.out, ← HY.out] at this
            exact of_decide_eq_false h this
        case measure => simp [Go.RowKit.intOf]; omega
    · have d1 : decide ((j : Int) < Q) = false := by simpa using hlt
      have z6 := heap10_at Y6.out (.int .i64 0) (.int .i64 Q) (.int .i64 2) (.int .i64 1) (.slice a n c) (.slice none 0 0) (.slice none 0 0) (.slice none 0 0) (.slice none 0 0) (.slice none 0 0)
      have r6 := fun o => cell_of_heap z6 o
      have f6 := fun o => froz_of_heap Y6.out o
      have q6 := fun o => cell_of_heap Y6.out o
      have l6 := (Array.getElem?_eq_some_iff.1 Y6.out).1
      cases b with
      | false =>
        have HNO := Lib.hid (HBF.out rfl)
        go_wp2_with fail
        refine bodyPost_ret (v := .tuple #[.agg #[.int .i64 0, .int .i64 Q, .int .i64 2, .int .i64 1, .slice a n c, .slice none 0 0, .slice none 0 0, .slice none 0 0, .slice none 0 0, .slice none 0 0], .bool false]) (by simp [results, Try.results54, go_sem, r6]) rfl ?_
        exact ⟨.inr ⟨HNO.out, noT⟩, below10 HBV.out (Nat.le_refl _) _ _ _ _ _ _ _ _ _ _⟩
      | true =>
        obtain ⟨hfit, hri⟩ := HBT.out rfl
        have hNQ : Q = ((num bs 0 4 : Nat) : Int) := by
          have h1 := HQ.out
          unfold qU at h1
          rw [HL.out] at h1
          rw [if_pos (by omega)] at h1
          exact h1
        have HOK := Lib.hid (show PListOk bs from ⟨by rw [HL.out]; exact hfit, fun i hi => hri i (by omega)⟩)
        have HNQ := Lib.hid hNQ
        clear hNQ hri
        go_wp2_with fail
        refine bodyPost_ret (v := .tuple #[.agg #[.int .i64 0, .int .i64 Q, .int .i64 2, .int .i64 1, .slice a n c, .slice none 0 0, .slice none 0 0, .slice none 0 0, .slice none 0 0, .slice none 0 0], .bool true]) (by simp [results, Try.results54, go_sem, r6]) rfl ?_
        exact ⟨.inl ⟨HOK.out, by rw [HNQ.out]⟩, below10 HBV.out (Nat.le_refl _) _ _ _ _ _ _ _ _ _ _⟩
end Go.Proofs.Ytbicnkopmamnpaa
end
section

/- The document's Read of a grid of distances. Conditions: bytes as the slice says; sizes. -/
namespace Go.Proofs.Ytbicnkopmamnpaa
open Go.RowKit Go.Lib

theorem from_ex (a : Option Addr) (n c : Nat) (z : Int) (hn : n ≤ c) : ∃ v b, (∀ w : World, Calls Try.prog 69 #[.slice a n c, .int .i64 z] w fun r w' => r = .returned (.tuple #[v, .bool b]) ∧ w = w') ∧ ((b = true ∧ ∃ k : Nat, z = (k : Nat) ∧ k ≤ n ∧ v = .slice (adv a c k) (n - k) (c - k)) ∨ (b = false ∧ (z < 0 ∨ (n : Int) < z) ∧ v = .slice none 0 0)) := by
  by_cases h : z < 0 ∨ (n : Int) < z
  · exact ⟨_, _, fun w => from_bad a n c z h w, .inr ⟨rfl, h, rfl⟩⟩
  · obtain ⟨k, rfl⟩ : ∃ k : Nat, z = (k : Nat) := ⟨z.toNat, by omega⟩
    exact ⟨_, _, fun w => from_ok a n c k hn (by omega) w, .inl ⟨rfl, k, rfl, by omega, rfl⟩⟩
/-- A lookup that is read, or not, by the document. -/
theorem reflk_ex (a : Option Addr) (n c : Nat) (bs : List UInt8) (glyphs size : Nat) (zg zs : Int) (hzg : zg = (glyphs : Nat)) (hzs : zs = (size : Nat)) (hS : size = 2 ∨ size = 4) (w : World) (h : Has w a (bytesV bs)) (hl : bs.length = n) (hn : n ≤ c) (hc : c ≤ maxLen) (h20 : n ≤ 4000) (hg1 : 1 ≤ glyphs) (hg2 : glyphs ≤ 65535) :
    Calls Try.prog 98 #[.slice a n c, .int .i64 zg, .int .i64 zs] w fun e w' => (∃ a1 n1 c1 a2 n2 c2 b, e = .returned (.tuple #[.agg #[.slice a1 n1 c1, .slice a2 n2 c2], .bool b])) ∧ Below w.heap.size w w' := by
  by_cases hok : ∃ rs, LkOk bs glyphs size rs
  · obtain ⟨rs, hok⟩ := hok
    exact (reflkS_yes a n c bs glyphs size zg zs hzg hzs hS rs w h hl hn hc h20 hg1 hg2 hok).mono fun e w' ⟨_, _, he, _, hb⟩ => ⟨⟨_, _, _, _, _, _, _, he⟩, hb⟩
  · exact (reflkS_no a n c bs glyphs size zg zs hzg hzs hS w h hl hn hc h20 hg1 hg2 (fun rs h => hok ⟨rs, h⟩)).mono fun e w' ⟨he, hb⟩ => ⟨⟨_, _, _, _, _, _, _, he⟩, hb⟩
def PGIs (a : Option Addr) (n c : Nat) (bs : List UInt8) (kind : Int) (glyphs at_ S U : Nat) (w : World) (e : Ending) (w' : World) : Prop :=
  ((∃ r1 r2 a1 c1 a2 c2, GridOk bs at_ S U glyphs r1 r2 ∧ e = .returned (.tuple #[.agg #[.int .i64 kind, .int .i64 0, .int .i64 (S : Nat), .int .i64 (U : Nat), .slice a n c, .slice (adv a c (num bs (at_ + 8) 4)) (n - num bs (at_ + 8) 4) (c - num bs (at_ + 8) 4), .slice (adv a c (num bs at_ 4)) (n - num bs at_ 4) (c - num bs at_ 4), .slice a1 r1.length c1, .slice (adv a c (num bs (at_ + 4) 4)) (n - num bs (at_ + 4) 4) (c - num bs (at_ + 4) 4), .slice a2 r2.length c2], .bool true]) ∧ Has w' a1 (encRs r1) ∧ Has w' a2 (encRs r2)) ∨ ((∀ r1 r2, ¬ GridOk bs at_ S U glyphs r1 r2) ∧ NoT e)) ∧ Below w.heap.size w w'
theorem qU_yes {bs : List UInt8} {k P : Nat} (h : qU bs k = (P : Nat)) : k + 4 ≤ bs.length ∧ P = num bs k 4 := by
  unfold qU at h
  split at h
  · exact ⟨by assumption, by omega⟩
  · omega
theorem qU_not {bs : List UInt8} {k n : Nat} (h : qU bs k < 0 ∨ (n : Int) < qU bs k) (hl : bs.length = n) (h4 : k + 4 ≤ n) : ¬ num bs k 4 ≤ n := by
  unfold qU at h
  rw [if_pos (by omega)] at h
  omega
theorem mostR_le' {bs : List UInt8} {rs : List RP} (hf : FitL (tabR bs rs).1 (tabR bs rs).2) : mostR bs rs ≤ 4294967295 := by
  rcases most_lk hf with h | ⟨id, _, _, h⟩
  · omega
  · have := lkR_le' hf id
    rwa [h] at this
/-- Parts are five numbers: a block that has four at most, ahead of slices, isn't theirs. -/
theorem has_far {w : World} {g t : Nat} {fz : Nat × Nat} {a : Option Addr} {rs : List RP} {cs : Array Value} (h : Has w a (encRs rs)) (hg : w.heap[g]? = some (.cells cs t fz)) (hc : ∀ (k : Nat) (z : Int), 4 ≤ k → cs[k]? ≠ some (.int .i64 z)) : encRs rs ≠ [] → ∀ p, a = some p → p.block ≠ g := by
  intro hne p hp hb
  obtain ⟨r, hr⟩ : ∃ r, rs[0]? = some r := by
    cases rs with
    | nil => exact absurd rfl hne
    | cons r rs => exact ⟨r, rfl⟩
  obtain ⟨q, hq, hcq⟩ := h _ _ (encRs_get rs 0 r hr 4 (by omega))
  rw [hp] at hq
  cases hq
  have e : p.add (0 * 5 + 4) = ⟨g, p.off + 4, none⟩ := by rw [← hb]; simp [Addr.add]
  rw [e, cell_of_heap hg (p.off + 4)] at hcq
  exact hc _ _ (by omega) hcq
theorem noInt (x0 x1 x2 x3 : Value) (a4 a5 a6 a7 a8 a9 : Option Addr) (n4 c4 n5 c5 n6 c6 n7 c7 n8 c8 n9 c9 : Nat) (k : Nat) (z : Int) (hk : 4 ≤ k) : (#[x0, x1, x2, x3, .slice a4 n4 c4, .slice a5 n5 c5, .slice a6 n6 c6, .slice a7 n7 c7, .slice a8 n8 c8, .slice a9 n9 c9] : Array Value)[k]? ≠ some (.int .i64 z) := by
  intro h
  match k, hk, h with
  | 4, _, h => simp at h
  | 5, _, h => simp at h
  | 6, _, h => simp at h
  | 7, _, h => simp at h
  | 8, _, h => simp at h
  | 9, _, h => simp at h
  | k + 10, _, h => simp at h
theorem has_far7 {w : World} {g o : Nat} {a : Option Addr} {rs : List RP} {cs : Array Value} {t : Nat} {fz : Nat × Nat} (h : Has w a (encRs rs)) (hg : w.heap[g]? = some (.cells cs t fz)) (hc : ∀ (k : Nat) (z : Int), 4 ≤ k → cs[k]? ≠ some (.int .i64 z)) (v : Value) : Has (w.setCell ⟨g, o, none⟩ v) a (encRs rs) := has_set h (has_far h hg hc) v
theorem has_farS {w w' : World} {g : Nat} {a : Option Addr} {rs : List RP} {cs : Array Value} {t : Nat} {fz : Nat × Nat} (h : Has w a (encRs rs)) (hg : w.heap[g]? = some (.cells cs t fz)) (hc : ∀ (k : Nat) (z : Int), 4 ≤ k → cs[k]? ≠ some (.int .i64 z)) (hk : ∀ k, k ≠ g → w'.heap[k]? = w.heap[k]?) : Has w' a (encRs rs) := by
  intro j u hu
  obtain ⟨p, hp, hcq⟩ := h j u hu
  refine ⟨p, hp, ?_⟩
  rw [World.cell?_of_block (w := w) (hk _ (by rw [add_block]; exact has_far h hg hc (by rintro e; rw [e] at hu; simp at hu) p hp))]
  exact hcq
theorem wpStoreO {P : Program} {w : World} {o : Oper} {a : Act} {K : Act → World → Prop} {Q : Exit → Act → World → Prop} (t : TypeId) (p x : Operand) (ho : o.op = .store t p x) (g : Nat) (c c' : Array Value) (hp : a.eval p = .pointer (some ⟨g, 0, none⟩)) (hx : a.eval x = .agg c') (hg : w.heap[g]? = some (.cells c t (0, 0)))
    (hi : (P.info? t).map (·.size) = some c'.size) (hs : c.size = c'.size) (h1 : c'.all (·.oneCell') = true)
    (h : ∀ w', w'.heap[g]? = some (.cells c' t (0, 0)) → (∀ k, k ≠ g → w'.heap[k]? = w.heap[k]?) → w'.heap.size = w.heap.size → Below g w w' → K (a.put o.dst undef) w') : o.wp P a w K Q := by
  have hr : (execOp a.eval o).run P w = .ok .skip (w.setRow g c') := by unfold execOp; rw [ho]; simp only [hp, hx, Instr.storeAt, Instr.sureAddr, Sem.run_bind, Sem.run_pure, Sem.run_map, Result.andThen, run_storeVar_row w g t t c c' hg hi hs h1]
  unfold Oper.wp
  rw [hr]
  exact h _ (setRow_heap w g c _ t _ hg) (fun k hk => setRow_other w g k _ hk) (by simp [World.setRow]) (below_setRow (Below.refl _ _) (Nat.le_refl _) _)
theorem size22 : (Try.prog.info? 104).map (·.size) = some 10 := by kernel_rfl
set_option maxRecDepth 100000 in
set_option maxHeartbeats 25600000 in
theorem prefG2_any (a : Option Addr) (n c : Nat) (bs : List UInt8) (glyphs : Nat) (w : World) (h : Has w a (bytesV bs)) (hl : bs.length = n) (hn : n ≤ c) (hc : c ≤ maxLen) (h20 : n ≤ 4000) (hg1 : 1 ≤ glyphs) (hg2 : glyphs ≤ 65535) :
    Calls Try.prog 54 #[.int .i64 2, .slice a n c, .int .i64 (glyphs : Nat)] w (PGIs a n c bs 2 glyphs 4 2 1 w) := by
  have hAC := allocC
  have hAF := allocF
  have hnm : n ≤ maxLen := Nat.le_trans hn hc
  have HU := Lib.hid (fun (k : Nat) (z : Int) (hz : z = (k : Nat)) (hk : k ≤ 1000000000000) (W : World) (hW : Below w.heap.size w W) => qU_any a n c bs k z hz W (h.below hW) hl hnm hk)
  have HL := Lib.hid hl
  have HH := Lib.hid h
  clear h hl
  obtain ⟨X, hX⟩ : ∃ X, X = (w.alloc (Obj.cells #[.int .i64 0, .int .i64 0, .int .i64 0, .int .i64 0, .slice none 0 0, .slice none 0 0, .slice none 0 0, .slice none 0 0, .slice none 0 0, .slice none 0 0] 104)).alloc (Obj.cells #[.int .i64 2, .int .i64 0, .int .i64 2, .int .i64 1, .slice a n c, .slice none 0 0, .slice none 0 0, .slice none 0 0, .slice none 0 0, .slice none 0 0] 104) := ⟨_, rfl⟩
  have hbX : Below w.heap.size w X := by rw [hX]; exact balloc (balloc (brefl w) _) _
  have x6 : X.heap[w.heap.size]? = some (.cells #[.int .i64 0, .int .i64 0, .int .i64 0, .int .i64 0, .slice none 0 0, .slice none 0 0, .slice none 0 0, .slice none 0 0, .slice none 0 0, .slice none 0 0] 104 (0, 0)) := by rw [hX, heap_push, if_neg (by simp), heap_push, if_pos rfl]
  have x8 : X.heap[w.heap.size + 1]? = some (.cells #[.int .i64 2, .int .i64 0, .int .i64 2, .int .i64 1, .slice a n c, .slice none 0 0, .slice none 0 0, .slice none 0 0, .slice none 0 0, .slice none 0 0] 104 (0, 0)) := by rw [hX, heap_push, if_pos (by simp)]
  have HBX := Lib.hid hbX
  have Y6 := Lib.hid x6
  have Y8 := Lib.hid x8
  clear hbX x6 x8
  go_enter Try.func54, Try.ntmps54
  go_wp2_with fail
  rw [← hX]
  clear hX
  have q8 := fun o => cell_of_heap Y8.out o
  have l8 := (Array.getElem?_eq_some_iff.1 Y8.out).1
  have q6 := fun o => cell_of_heap Y6.out o
  have f6 := fun o => froz_of_heap Y6.out o
  have l6 := (Array.getElem?_eq_some_iff.1 Y6.out).1
  obtain ⟨v1, b1, hf1, hfb1⟩ := from_ex a n c (qU bs 4) hn
  have HF1 := Lib.hid hf1
  have HQ1 := Lib.hid (fun V hV => HU.out 4 4 rfl (by decide) V hV)
  have hqb1 := qU_bound bs 4
  have HFB1 := Lib.hid hfb1
  obtain ⟨Q1, hQ1⟩ : ∃ Q, Q = qU bs 4 := ⟨_, rfl⟩
  rw [← hQ1] at HF1 HQ1 hqb1 HFB1
  have HE1 := Lib.hid hQ1
  clear hf1 hfb1 hQ1
  obtain ⟨v2, b2, hf2, hfb2⟩ := from_ex a n c (qU bs 8) hn
  have HF2 := Lib.hid hf2
  have HQ2 := Lib.hid (fun V hV => HU.out 8 8 rfl (by decide) V hV)
  have hqb2 := qU_bound bs 8
  have HFB2 := Lib.hid hfb2
  obtain ⟨Q2, hQ2⟩ : ∃ Q, Q = qU bs 8 := ⟨_, rfl⟩
  rw [← hQ2] at HF2 HQ2 hqb2 HFB2
  have HE2 := Lib.hid hQ2
  clear hf2 hfb2 hQ2
  obtain ⟨v3, b3, hf3, hfb3⟩ := from_ex a n c (qU bs 12) hn
  have HF3 := Lib.hid hf3
  have HQ3 := Lib.hid (fun V hV => HU.out 12 12 rfl (by decide) V hV)
  have hqb3 := qU_bound bs 12
  have HFB3 := Lib.hid hfb3
  obtain ⟨Q3, hQ3⟩ : ∃ Q, Q = qU bs 12 := ⟨_, rfl⟩
  rw [← hQ3] at HF3 HQ3 hqb3 HFB3
  have HE3 := Lib.hid hQ3
  clear hf3 hfb3 hQ3
  cases b1 with
  | false =>
    have HNO := Lib.hid (show ∀ r1 r2, ¬ GridOk bs 4 2 1 glyphs r1 r2 from fun r1 r2 ho => by
      rcases HFB1.out with ⟨h, _⟩ | ⟨_, hb, _⟩
      · cases h
      · rw [HE1.out] at hb
        have hl := ho.len
        have ha := ho.at1
        rw [HL.out] at hl ha
        exact qU_not hb HL.out (by omega) ha)
    go_wp2_with (first | (go_at_call 70; (with_reducible refine (HQ1.out X HBX.out).mono ?_); rintro e w_ ⟨rfl, rfl⟩) | (go_at_call 70; (with_reducible refine (HQ2.out X HBX.out).mono ?_); rintro e w_ ⟨rfl, rfl⟩) | (go_at_call 70; (with_reducible refine (HQ3.out X HBX.out).mono ?_); rintro e w_ ⟨rfl, rfl⟩) | (go_at_call 69; (with_reducible refine (HF1.out X).mono ?_); rintro e w_ ⟨rfl, rfl⟩) | (go_at_call 69; (with_reducible refine (HF2.out X).mono ?_); rintro e w_ ⟨rfl, rfl⟩) | (go_at_call 69; (with_reducible refine (HF3.out X).mono ?_); rintro e w_ ⟨rfl, rfl⟩))
    have z6 := heap10_at Y6.out (.int .i64 2) (.int .i64 0) (.int .i64 2) (.int .i64 1) (.slice a n c) (.slice none 0 0) (.slice none 0 0) (.slice none 0 0) (.slice none 0 0) (.slice none 0 0)
    have r6 := fun o => cell_of_heap z6 o
    refine bodyPost_ret (v := .tuple #[.agg #[.int .i64 2, .int .i64 0, .int .i64 2, .int .i64 1, .slice a n c, .slice none 0 0, .slice none 0 0, .slice none 0 0, .slice none 0 0, .slice none 0 0], .bool false]) (by simp [results, Try.results54, go_sem, r6]) rfl ?_
    exact ⟨.inr ⟨HNO.out, noT⟩, below10 HBX.out (Nat.le_refl _) _ _ _ _ _ _ _ _ _ _⟩
  | true =>
    cases b2 with
    | false =>
      have HNO := Lib.hid (show ∀ r1 r2, ¬ GridOk bs 4 2 1 glyphs r1 r2 from fun r1 r2 ho => by
        rcases HFB2.out with ⟨h, _⟩ | ⟨_, hb, _⟩
        · cases h
        · rw [HE2.out] at hb
          have hl := ho.len
          have ha := ho.at2
          rw [HL.out] at hl ha
          exact qU_not hb HL.out (by omega) ha)
      go_wp2_with (first | (go_at_call 70; (with_reducible refine (HQ1.out X HBX.out).mono ?_); rintro e w_ ⟨rfl, rfl⟩) | (go_at_call 70; (with_reducible refine (HQ2.out X HBX.out).mono ?_); rintro e w_ ⟨rfl, rfl⟩) | (go_at_call 70; (with_reducible refine (HQ3.out X HBX.out).mono ?_); rintro e w_ ⟨rfl, rfl⟩) | (go_at_call 69; (with_reducible refine (HF1.out X).mono ?_); rintro e w_ ⟨rfl, rfl⟩) | (go_at_call 69; (with_reducible refine (HF2.out X).mono ?_); rintro e w_ ⟨rfl, rfl⟩) | (go_at_call 69; (with_reducible refine (HF3.out X).mono ?_); rintro e w_ ⟨rfl, rfl⟩))
      have z6 := heap10_at Y6.out (.int .i64 2) (.int .i64 0) (.int .i64 2) (.int .i64 1) (.slice a n c) (.slice none 0 0) (.slice none 0 0) (.slice none 0 0) (.slice none 0 0) (.slice none 0 0)
      have r6 := fun o => cell_of_heap z6 o
      refine bodyPost_ret (v := .tuple #[.agg #[.int .i64 2, .int .i64 0, .int .i64 2, .int .i64 1, .slice a n c, .slice none 0 0, .slice none 0 0, .slice none 0 0, .slice none 0 0, .slice none 0 0], .bool false]) (by simp [results, Try.results54, go_sem, r6]) rfl ?_
      exact ⟨.inr ⟨HNO.out, noT⟩, below10 HBX.out (Nat.le_refl _) _ _ _ _ _ _ _ _ _ _⟩
    | true =>
      cases b3 with
      | false =>
        have HNO := Lib.hid (show ∀ r1 r2, ¬ GridOk bs 4 2 1 glyphs r1 r2 from fun r1 r2 ho => by
          rcases HFB3.out with ⟨h, _⟩ | ⟨_, hb, _⟩
          · cases h
          · rw [HE3.out] at hb
            have hl := ho.len
            have ha := ho.at3
            rw [HL.out] at hl ha
            exact qU_not hb HL.out (by omega) ha)
        go_wp2_with (first | (go_at_call 70; (with_reducible refine (HQ1.out X HBX.out).mono ?_); rintro e w_ ⟨rfl, rfl⟩) | (go_at_call 70; (with_reducible refine (HQ2.out X HBX.out).mono ?_); rintro e w_ ⟨rfl, rfl⟩) | (go_at_call 70; (with_reducible refine (HQ3.out X HBX.out).mono ?_); rintro e w_ ⟨rfl, rfl⟩) | (go_at_call 69; (with_reducible refine (HF1.out X).mono ?_); rintro e w_ ⟨rfl, rfl⟩) | (go_at_call 69; (with_reducible refine (HF2.out X).mono ?_); rintro e w_ ⟨rfl, rfl⟩) | (go_at_call 69; (with_reducible refine (HF3.out X).mono ?_); rintro e w_ ⟨rfl, rfl⟩))
        have z6 := heap10_at Y6.out (.int .i64 2) (.int .i64 0) (.int .i64 2) (.int .i64 1) (.slice a n c) (.slice none 0 0) (.slice none 0 0) (.slice none 0 0) (.slice none 0 0) (.slice none 0 0)
        have r6 := fun o => cell_of_heap z6 o
        refine bodyPost_ret (v := .tuple #[.agg #[.int .i64 2, .int .i64 0, .int .i64 2, .int .i64 1, .slice a n c, .slice none 0 0, .slice none 0 0, .slice none 0 0, .slice none 0 0, .slice none 0 0], .bool false]) (by simp [results, Try.results54, go_sem, r6]) rfl ?_
        exact ⟨.inr ⟨HNO.out, noT⟩, below10 HBX.out (Nat.le_refl _) _ _ _ _ _ _ _ _ _ _⟩
      | true =>
        obtain ⟨P1, hP1, hle1, rfl⟩ : ∃ P : Nat, Q1 = (P : Nat) ∧ P ≤ n ∧ v1 = .slice (adv a c P) (n - P) (c - P) := by
          rcases HFB1.out with ⟨_, k, h1, h2, h3⟩ | ⟨h, _⟩
          · exact ⟨k, h1, h2, h3⟩
          · cases h
        obtain ⟨hu1, hN1⟩ := qU_yes (HE1.out.symm.trans hP1)
        have HN1 := Lib.hid hN1
        subst hP1
        clear hN1
        obtain ⟨P2, hP2, hle2, rfl⟩ : ∃ P : Nat, Q2 = (P : Nat) ∧ P ≤ n ∧ v2 = .slice (adv a c P) (n - P) (c - P) := by
          rcases HFB2.out with ⟨_, k, h1, h2, h3⟩ | ⟨h, _⟩
          · exact ⟨k, h1, h2, h3⟩
          · cases h
        obtain ⟨hu2, hN2⟩ := qU_yes (HE2.out.symm.trans hP2)
        have HN2 := Lib.hid hN2
        subst hP2
        clear hN2
        obtain ⟨P3, hP3, hle3, rfl⟩ : ∃ P : Nat, Q3 = (P : Nat) ∧ P ≤ n ∧ v3 = .slice (adv a c P) (n - P) (c - P) := by
          rcases HFB3.out with ⟨_, k, h1, h2, h3⟩ | ⟨h, _⟩
          · exact ⟨k, h1, h2, h3⟩
          · cases h
        obtain ⟨hu3, hN3⟩ := qU_yes (HE3.out.symm.trans hP3)
        have HN3 := Lib.hid hN3
        subst hP3
        clear hN3
        rw [HL.out] at hu1 hu2 hu3
        clear HFB1 HFB2 HFB3 HE1 HE2 HE3
        have HY1 := Lib.hid (fun (rs : List RP) (hok : LkOk (bs.drop P1) glyphs 2 rs) (V : World) (hV : Below w.heap.size w V) => reflkS_yes (adv a c P1) (n - P1) (c - P1) (bs.drop P1) glyphs 2 (glyphs : Nat) 2 rfl rfl (.inl rfl) rs V (by rw [← bytesV_drop]; exact (HH.out.below hV).adv c P1 (by rw [bytesV_length, HL.out]; exact hn)) (by rw [List.length_drop, HL.out]) (by omega) (Nat.le_trans (Nat.sub_le _ _) hc) (by omega) hg1 hg2 hok)
        have HZ1 := Lib.hid (fun (hno : ∀ rs, ¬ LkOk (bs.drop P1) glyphs 2 rs) (V : World) (hV : Below w.heap.size w V) => reflkS_no (adv a c P1) (n - P1) (c - P1) (bs.drop P1) glyphs 2 (glyphs : Nat) 2 rfl rfl (.inl rfl) V (by rw [← bytesV_drop]; exact (HH.out.below hV).adv c P1 (by rw [bytesV_length, HL.out]; exact hn)) (by rw [List.length_drop, HL.out]) (by omega) (Nat.le_trans (Nat.sub_le _ _) hc) (by omega) hg1 hg2 hno)
        have HY2 := Lib.hid (fun (rs : List RP) (hok : LkOk (bs.drop P2) glyphs 2 rs) (V : World) (hV : Below w.heap.size w V) => reflkS_yes (adv a c P2) (n - P2) (c - P2) (bs.drop P2) glyphs 2 (glyphs : Nat) 2 rfl rfl (.inl rfl) rs V (by rw [← bytesV_drop]; exact (HH.out.below hV).adv c P2 (by rw [bytesV_length, HL.out]; exact hn)) (by rw [List.length_drop, HL.out]) (by omega) (Nat.le_trans (Nat.sub_le _ _) hc) (by omega) hg1 hg2 hok)
        have HZ2 := Lib.hid (fun (hno : ∀ rs, ¬ LkOk (bs.drop P2) glyphs 2 rs) (V : World) (hV : Below w.heap.size w V) => reflkS_no (adv a c P2) (n - P2) (c - P2) (bs.drop P2) glyphs 2 (glyphs : Nat) 2 rfl rfl (.inl rfl) V (by rw [← bytesV_drop]; exact (HH.out.below hV).adv c P2 (by rw [bytesV_length, HL.out]; exact hn)) (by rw [List.length_drop, HL.out]) (by omega) (Nat.le_trans (Nat.sub_le _ _) hc) (by omega) hg1 hg2 hno)
        have HX2 := Lib.hid (fun (V : World) (hV : Below w.heap.size w V) => reflk_ex (adv a c P2) (n - P2) (c - P2) (bs.drop P2) glyphs 2 (glyphs : Nat) 2 rfl rfl (.inl rfl) V (by rw [← bytesV_drop]; exact (HH.out.below hV).adv c P2 (by rw [bytesV_length, HL.out]; exact hn)) (by rw [List.length_drop, HL.out]) (by omega) (Nat.le_trans (Nat.sub_le _ _) hc) (by omega) hg1 hg2)
        go_wp2_with (first | (go_at_call 70; (with_reducible refine (HQ1.out X HBX.out).mono ?_); rintro e w_ ⟨rfl, rfl⟩) | (go_at_call 70; (with_reducible refine (HQ2.out X HBX.out).mono ?_); rintro e w_ ⟨rfl, rfl⟩) | (go_at_call 70; (with_reducible refine (HQ3.out X HBX.out).mono ?_); rintro e w_ ⟨rfl, rfl⟩) | (go_at_call 69; (with_reducible refine (HF1.out X).mono ?_); rintro e w_ ⟨rfl, rfl⟩) | (go_at_call 69; (with_reducible refine (HF2.out X).mono ?_); rintro e w_ ⟨rfl, rfl⟩) | (go_at_call 69; (with_reducible refine (HF3.out X).mono ?_); rintro e w_ ⟨rfl, rfl⟩))
        by_cases hk1 : ∃ r1, LkOk (bs.drop P1) glyphs 2 r1
        case neg =>
          have HNO := Lib.hid (show ∀ r1 r2, ¬ GridOk bs 4 2 1 glyphs r1 r2 from fun q1 q2 ho => hk1 ⟨_, by have := ho.lk1; rw [← HN1.out] at this; exact this⟩)
          refine (HZ1.out (fun rs h => hk1 ⟨rs, h⟩) X HBX.out).mono ?_
          rintro e w1 ⟨rfl, hb1⟩
          have y6 := (hb1.block _ l6).trans Y6.out
          have y8 := (hb1.block _ l8).trans Y8.out
          have q8 := fun o => cell_of_heap y8 o
          have f8 := fun o => froz_of_heap y8 o
          have m8 := (Array.getElem?_eq_some_iff.1 y8).1
          have hb1w := HBX.out.trans (hb1.mono HBX.out.size)
          obtain ⟨V, hV⟩ : ∃ V, V = (w1.setCell ⟨w.heap.size + 1, 6, none⟩ (.slice none 0 0)).setCell ⟨w.heap.size + 1, 7, none⟩ (.slice none 0 0) := ⟨_, rfl⟩
          have hV' := hV
          have hbV : Below w.heap.size w V := by rw [hV]; exact (hb1w.setCell (p := ⟨w.heap.size + 1, 6, none⟩) (Nat.le_succ _) _).setCell (p := ⟨w.heap.size + 1, 7, none⟩) (Nat.le_succ _) _
          have z8 : V.heap[w.heap.size + 1]? = some (.cells #[.int .i64 2, .int .i64 0, .int .i64 2, .int .i64 1, .slice a n c, .slice none 0 0, .slice none 0 0, .slice none 0 0, .slice none 0 0, .slice none 0 0] 104 (0, 0)) := by rw [hV]; exact set_heap_at (o := 7) _ (set_heap_at (o := 6) _ y8)
          have z6 : V.heap[w.heap.size]? = some (.cells #[.int .i64 0, .int .i64 0, .int .i64 0, .int .i64 0, .slice none 0 0, .slice none 0 0, .slice none 0 0, .slice none 0 0, .slice none 0 0, .slice none 0 0] 104 (0, 0)) := by rw [hV]; exact (set_heap_other _ (by omega)).trans ((set_heap_other _ (by omega)).trans y6)
          have HBV := Lib.hid hbV
          have Z8 := Lib.hid z8
          have Z6 := Lib.hid z6
          clear hV hbV z8 z6 y6 y8 hb1w
          go_wp2_with fail
          rw [← hV']
          clear hV' q8 f8 m8 l8 l6 q6 f6
          refine (HX2.out V HBV.out).mono ?_
          rintro e w2 ⟨⟨a3, n3, c3, a4, n4, c4, b2, rfl⟩, hb2⟩
          have l8 := (Array.getElem?_eq_some_iff.1 Z8.out).1
          have l6 := (Array.getElem?_eq_some_iff.1 Z6.out).1
          have y6 := (hb2.block _ l6).trans Z6.out
          have y8 := (hb2.block _ l8).trans Z8.out
          have q8 := fun o => cell_of_heap y8 o
          have f8 := fun o => froz_of_heap y8 o
          have m8 := (Array.getElem?_eq_some_iff.1 y8).1
          have hb2w := HBV.out.trans (hb2.mono HBV.out.size)
          obtain ⟨Y, hY⟩ : ∃ Y, Y = ((w2.setCell ⟨w.heap.size + 1, 8, none⟩ (.slice a3 n3 c3)).setCell ⟨w.heap.size + 1, 9, none⟩ (.slice a4 n4 c4)).setCell ⟨w.heap.size + 1, 5, none⟩ (.slice (adv a c P3) (n - P3) (c - P3)) := ⟨_, rfl⟩
          have hY' := hY
          have hbY : Below w.heap.size w Y := by rw [hY]; exact ((hb2w.setCell (p := ⟨w.heap.size + 1, 8, none⟩) (Nat.le_succ _) _).setCell (p := ⟨w.heap.size + 1, 9, none⟩) (Nat.le_succ _) _).setCell (p := ⟨w.heap.size + 1, 5, none⟩) (Nat.le_succ _) _
          have k8 : Y.heap[w.heap.size + 1]? = some (.cells #[.int .i64 2, .int .i64 0, .int .i64 2, .int .i64 1, .slice a n c, .slice (adv a c P3) (n - P3) (c - P3), .slice none 0 0, .slice none 0 0, .slice a3 n3 c3, .slice a4 n4 c4] 104 (0, 0)) := by rw [hY]; exact set_heap_at (o := 5) _ (set_heap_at (o := 9) _ (set_heap_at (o := 8) _ y8))
          have k6 : Y.heap[w.heap.size]? = some (.cells #[.int .i64 0, .int .i64 0, .int .i64 0, .int .i64 0, .slice none 0 0, .slice none 0 0, .slice none 0 0, .slice none 0 0, .slice none 0 0, .slice none 0 0] 104 (0, 0)) := by rw [hY]; exact (set_heap_other _ (by omega)).trans ((set_heap_other _ (by omega)).trans ((set_heap_other _ (by omega)).trans y6))
          have HBY := Lib.hid hbY
          have K8 := Lib.hid k8
          have K6 := Lib.hid k6
          clear hY hbY k8 k6 y6 y8 hb2w
          go_wp2_with fail
          rw [← hY']
          clear hY' q8 f8 m8 l8 l6
          have q8 := fun o => cell_of_heap K8.out o
          have l8 := (Array.getElem?_eq_some_iff.1 K8.out).1
          have f6 := fun o => froz_of_heap K6.out o
          have q6 := fun o => cell_of_heap K6.out o
          have l6 := (Array.getElem?_eq_some_iff.1 K6.out).1
          refine wp_region_tree (.step 0 (.step 1 (.step 2 (.step 3 (.step 4 (.step 5 (.step 6 (.step 7 (.step 8 (.step 9 (.step 10 (.step 11 (.step 13 (.step 14 (.step 18 (.step 19 (.step 12 (.step 15 (.step 16 (.step 17 (.step 20 (.step 21 (.step 22 (.step 23 .nil)))))))))))))))))))))))) (by kernel_rfl) (by kernel_rfl) (by kernel_rfl) (by kernel_rfl) (by intro _ _ d_ _ _ h_; cases d_ <;> first | exact h_ | (dsimp +zetaDelta only at h_ ⊢; exact h_)) (fun w' => ∃ p : Wld Y [w.heap.size], w' = p.val) (wld_start _ _) ?_
          have hG_ := @wldC1 Y w.heap.size
          (refine tree_quiet gtA (by rfl) (by rfl) (fun K_ hK_ => ?_); go_big_quiet_op; refine hK_ _ ?_; clear hK_ K_)
          (refine tree_quiet gtA (by rfl) (by rfl) (fun K_ hK_ => ?_); go_big_quiet_op; refine hK_ _ ?_; clear hK_ K_)
          (refine tree_quiet gtA (by rfl) (by rfl) (fun K_ hK_ => ?_); go_big_quiet_op; refine hK_ _ ?_; clear hK_ K_)
          refine tree_skip gtA (by rfl) ?_; dsimp only [Act.put]; simp only [List.setIfInBounds_toArray, List.set_cons_succ, List.set_cons_zero]
          (refine tree_quiet gtA (by rfl) (by rfl) (fun K_ hK_ => ?_); go_big_quiet_op; refine hK_ _ ?_; clear hK_ K_)
          (refine tree_quiet gtA (by rfl) (by rfl) (fun K_ hK_ => ?_); go_big_quiet_op; refine hK_ _ ?_; clear hK_ K_)
          refine tree_skip gtA (by rfl) ?_; dsimp only [Act.put]; simp only [List.setIfInBounds_toArray, List.set_cons_succ, List.set_cons_zero]
          refine tree_skip gtA (by rfl) ?_; dsimp only [Act.put]; simp only [List.setIfInBounds_toArray, List.set_cons_succ, List.set_cons_zero]
          refine tree_skip gtA (by rfl) ?_; dsimp only [Act.put]; simp only [List.setIfInBounds_toArray, List.set_cons_succ, List.set_cons_zero]
          refine tree_skip gtA (by rfl) ?_; dsimp only [Act.put]; simp only [List.setIfInBounds_toArray, List.set_cons_succ, List.set_cons_zero]
          refine tree_skip gtA (by rfl) ?_; dsimp only [Act.put]; simp only [List.setIfInBounds_toArray, List.set_cons_succ, List.set_cons_zero]
          refine tree_skip gtA (by rfl) ?_; dsimp only [Act.put]; simp only [List.setIfInBounds_toArray, List.set_cons_succ, List.set_cons_zero]
          refine tree_skip gtA (by rfl) ?_; dsimp only [Act.put]; simp only [List.setIfInBounds_toArray, List.set_cons_succ, List.set_cons_zero]
          refine tree_skip gtA (by rfl) ?_; dsimp only [Act.put]; simp only [List.setIfInBounds_toArray, List.set_cons_succ, List.set_cons_zero]
          refine tree_skip gtA (by rfl) ?_; dsimp only [Act.put]; simp only [List.setIfInBounds_toArray, List.set_cons_succ, List.set_cons_zero]
          refine tree_skip gtA (by rfl) ?_; dsimp only [Act.put]; simp only [List.setIfInBounds_toArray, List.set_cons_succ, List.set_cons_zero]
          refine tree_skip gtA (by rfl) ?_; dsimp only [Act.put]; simp only [List.setIfInBounds_toArray, List.set_cons_succ, List.set_cons_zero]
          refine tree_skip gtA (by rfl) ?_; dsimp only [Act.put]; simp only [List.setIfInBounds_toArray, List.set_cons_succ, List.set_cons_zero]
          refine tree_skip gtA (by rfl) ?_; dsimp only [Act.put]; simp only [List.setIfInBounds_toArray, List.set_cons_succ, List.set_cons_zero]
          refine tree_skip gtA (by rfl) ?_; dsimp only [Act.put]; simp only [List.setIfInBounds_toArray, List.set_cons_succ, List.set_cons_zero]
          refine tree_skip gtA (by rfl) ?_; dsimp only [Act.put]; simp only [List.setIfInBounds_toArray, List.set_cons_succ, List.set_cons_zero]
          (refine tree_quiet gtA (by rfl) (by rfl) (fun K_ hK_ => ?_); go_big_quiet_op; refine hK_ _ ?_; clear hK_ K_)
          (refine tree_run gtA (by rfl) (by rfl) (fun K_ hK_ => ?_); have HK_ := Lib.hid hK_; clear hK_; (first | ((refine wpStoreO 104 _ _ rfl w.heap.size _ #[.int .i64 2, .int .i64 0, .int .i64 2, .int .i64 1, .slice a n c, .slice (adv a c P3) (n - P3) (c - P3), .slice none 0 0, .slice none 0 0, .slice a3 n3 c3, .slice a4 n4 c4] rfl rfl K6.out size22 rfl (by simp [Value.oneCell']) ?_; intro wS hS hSo hSz hSb; have hSame : Same Y [w.heap.size] wS := ⟨Nat.le_of_eq hSz.symm, fun k _ hk => hSo k (by simpa using hk)⟩; (try dsimp only [Act.put]))) | (go_wp2_with (fail))); refine HK_.out _ _ (wld_ofA) ?_; clear HK_)
          (refine tree_quiet gtA (by rfl) (by rfl) (fun K_ hK_ => ?_); go_big_quiet_op; refine hK_ _ ?_; clear hK_ K_)
          refine tree_nil ?_
          clear hG_
          go_wp2_with fail
          have r6 := fun o => cell_of_heap hS o
          refine bodyPost_ret (v := .tuple #[.agg #[.int .i64 2, .int .i64 0, .int .i64 2, .int .i64 1, .slice a n c, .slice (adv a c P3) (n - P3) (c - P3), .slice none 0 0, .slice none 0 0, .slice a3 n3 c3, .slice a4 n4 c4], .bool false]) (by simp [results, Try.results54, go_sem, r6]) rfl ?_
          exact ⟨.inr ⟨HNO.out, noT⟩, by first | exact HBY.out.trans hSb | exact (bdrew1 HBY.out).trans hSb⟩
        obtain ⟨r1, hk1⟩ := hk1
        refine (HY1.out r1 hk1 X HBX.out).mono ?_
        rintro e w1 ⟨a1, c1, rfl, hhas1, hb1⟩
        have HAS1 := Lib.hid hhas1
        have HK1 := Lib.hid hk1
        clear hhas1 hk1
        have y6 := (hb1.block _ l6).trans Y6.out
        have y8 := (hb1.block _ l8).trans Y8.out
        have q8 := fun o => cell_of_heap y8 o
        have f8 := fun o => froz_of_heap y8 o
        have m8 := (Array.getElem?_eq_some_iff.1 y8).1
        have hb1w := HBX.out.trans (hb1.mono HBX.out.size)
        obtain ⟨V, hV⟩ : ∃ V, V = (w1.setCell ⟨w.heap.size + 1, 6, none⟩ (.slice (adv a c P1) (n - P1) (c - P1))).setCell ⟨w.heap.size + 1, 7, none⟩ (.slice a1 r1.length c1) := ⟨_, rfl⟩
        have hV' := hV
        have hbV : Below w.heap.size w V := by rw [hV]; exact (hb1w.setCell (p := ⟨w.heap.size + 1, 6, none⟩) (Nat.le_succ _) _).setCell (p := ⟨w.heap.size + 1, 7, none⟩) (Nat.le_succ _) _
        have z8 : V.heap[w.heap.size + 1]? = some (.cells #[.int .i64 2, .int .i64 0, .int .i64 2, .int .i64 1, .slice a n c, .slice none 0 0, .slice (adv a c P1) (n - P1) (c - P1), .slice a1 r1.length c1, .slice none 0 0, .slice none 0 0] 104 (0, 0)) := by rw [hV]; exact set_heap_at (o := 7) _ (set_heap_at (o := 6) _ y8)
        have z6 : V.heap[w.heap.size]? = some (.cells #[.int .i64 0, .int .i64 0, .int .i64 0, .int .i64 0, .slice none 0 0, .slice none 0 0, .slice none 0 0, .slice none 0 0, .slice none 0 0, .slice none 0 0] 104 (0, 0)) := by rw [hV]; exact (set_heap_other _ (by omega)).trans ((set_heap_other _ (by omega)).trans y6)
        have HASV := Lib.hid (show Has V a1 (encRs r1) from by rw [hV']; exact has_far7 (has_far7 HAS1.out (o := 6) y8 (noInt _ _ _ _ _ _ _ _ _ _ _ _ _ _ _ _ _ _ _ _ _ _) _) (o := 7) (set_heap_at (o := 6) _ y8) (noInt _ _ _ _ _ _ _ _ _ _ _ _ _ _ _ _ _ _ _ _ _ _) _)
        have HBV := Lib.hid hbV
        have Z8 := Lib.hid z8
        have Z6 := Lib.hid z6
        clear hV hbV z8 z6 y6 y8 hb1w
        go_wp2_with fail
        rw [← hV']
        clear hV' q8 f8 m8 l8 l6 q6 f6
        by_cases hk2 : ∃ r2, LkOk (bs.drop P2) glyphs 2 r2
        case neg =>
          have HNO := Lib.hid (show ∀ r1 r2, ¬ GridOk bs 4 2 1 glyphs r1 r2 from fun q1 q2 ho => hk2 ⟨_, by have := ho.lk2; rw [← HN2.out] at this; exact this⟩)
          refine (HZ2.out (fun rs h => hk2 ⟨rs, h⟩) V HBV.out).mono ?_
          rintro e w2 ⟨rfl, hb2⟩
          have l8 := (Array.getElem?_eq_some_iff.1 Z8.out).1
          have l6 := (Array.getElem?_eq_some_iff.1 Z6.out).1
          have y6 := (hb2.block _ l6).trans Z6.out
          have y8 := (hb2.block _ l8).trans Z8.out
          have q8 := fun o => cell_of_heap y8 o
          have f8 := fun o => froz_of_heap y8 o
          have m8 := (Array.getElem?_eq_some_iff.1 y8).1
          have hb2w := HBV.out.trans (hb2.mono HBV.out.size)
          obtain ⟨Y, hY⟩ : ∃ Y, Y = ((w2.setCell ⟨w.heap.size + 1, 8, none⟩ (.slice none 0 0)).setCell ⟨w.heap.size + 1, 9, none⟩ (.slice none 0 0)).setCell ⟨w.heap.size + 1, 5, none⟩ (.slice (adv a c P3) (n - P3) (c - P3)) := ⟨_, rfl⟩
          have hY' := hY
          have hbY : Below w.heap.size w Y := by rw [hY]; exact ((hb2w.setCell (p := ⟨w.heap.size + 1, 8, none⟩) (Nat.le_succ _) _).setCell (p := ⟨w.heap.size + 1, 9, none⟩) (Nat.le_succ _) _).setCell (p := ⟨w.heap.size + 1, 5, none⟩) (Nat.le_succ _) _
          have k8 : Y.heap[w.heap.size + 1]? = some (.cells #[.int .i64 2, .int .i64 0, .int .i64 2, .int .i64 1, .slice a n c, .slice (adv a c P3) (n - P3) (c - P3), .slice (adv a c P1) (n - P1) (c - P1), .slice a1 r1.length c1, .slice none 0 0, .slice none 0 0] 104 (0, 0)) := by rw [hY]; exact set_heap_at (o := 5) _ (set_heap_at (o := 9) _ (set_heap_at (o := 8) _ y8))
          have k6 : Y.heap[w.heap.size]? = some (.cells #[.int .i64 0, .int .i64 0, .int .i64 0, .int .i64 0, .slice none 0 0, .slice none 0 0, .slice none 0 0, .slice none 0 0, .slice none 0 0, .slice none 0 0] 104 (0, 0)) := by rw [hY]; exact (set_heap_other _ (by omega)).trans ((set_heap_other _ (by omega)).trans ((set_heap_other _ (by omega)).trans y6))
          have HBY := Lib.hid hbY
          have K8 := Lib.hid k8
          have K6 := Lib.hid k6
          clear hY hbY k8 k6 y6 y8 hb2w
          go_wp2_with fail
          rw [← hY']
          clear hY' q8 f8 m8 l8 l6
          have q8 := fun o => cell_of_heap K8.out o
          have l8 := (Array.getElem?_eq_some_iff.1 K8.out).1
          have f6 := fun o => froz_of_heap K6.out o
          have q6 := fun o => cell_of_heap K6.out o
          have l6 := (Array.getElem?_eq_some_iff.1 K6.out).1
          refine wp_region_tree (.step 0 (.step 1 (.step 2 (.step 3 (.step 4 (.step 5 (.step 6 (.step 7 (.step 8 (.step 9 (.step 10 (.step 11 (.step 13 (.step 14 (.step 18 (.step 19 (.step 12 (.step 15 (.step 16 (.step 17 (.step 20 (.step 21 (.step 22 (.step 23 .nil)))))))))))))))))))))))) (by kernel_rfl) (by kernel_rfl) (by kernel_rfl) (by kernel_rfl) (by intro _ _ d_ _ _ h_; cases d_ <;> first | exact h_ | (dsimp +zetaDelta only at h_ ⊢; exact h_)) (fun w' => ∃ p : Wld Y [w.heap.size], w' = p.val) (wld_start _ _) ?_
          have hG_ := @wldC1 Y w.heap.size
          (refine tree_quiet gtA (by rfl) (by rfl) (fun K_ hK_ => ?_); go_big_quiet_op; refine hK_ _ ?_; clear hK_ K_)
          (refine tree_quiet gtA (by rfl) (by rfl) (fun K_ hK_ => ?_); go_big_quiet_op; refine hK_ _ ?_; clear hK_ K_)
          (refine tree_quiet gtA (by rfl) (by rfl) (fun K_ hK_ => ?_); go_big_quiet_op; refine hK_ _ ?_; clear hK_ K_)
          (refine tree_quiet gtA (by rfl) (by rfl) (fun K_ hK_ => ?_); go_big_quiet_op; refine hK_ _ ?_; clear hK_ K_)
          (refine tree_quiet gtA (by rfl) (by rfl) (fun K_ hK_ => ?_); go_big_quiet_op; refine hK_ _ ?_; clear hK_ K_)
          (refine tree_quiet gtA (by rfl) (by rfl) (fun K_ hK_ => ?_); go_big_quiet_op; refine hK_ _ ?_; clear hK_ K_)
          refine tree_skip gtA (by rfl) ?_; dsimp only [Act.put]; simp only [List.setIfInBounds_toArray, List.set_cons_succ, List.set_cons_zero]
          refine tree_skip gtA (by rfl) ?_; dsimp only [Act.put]; simp only [List.setIfInBounds_toArray, List.set_cons_succ, List.set_cons_zero]
          refine tree_skip gtA (by rfl) ?_; dsimp only [Act.put]; simp only [List.setIfInBounds_toArray, List.set_cons_succ, List.set_cons_zero]
          refine tree_skip gtA (by rfl) ?_; dsimp only [Act.put]; simp only [List.setIfInBounds_toArray, List.set_cons_succ, List.set_cons_zero]
          refine tree_skip gtA (by rfl) ?_; dsimp only [Act.put]; simp only [List.setIfInBounds_toArray, List.set_cons_succ, List.set_cons_zero]
          refine tree_skip gtA (by rfl) ?_; dsimp only [Act.put]; simp only [List.setIfInBounds_toArray, List.set_cons_succ, List.set_cons_zero]
          refine tree_skip gtA (by rfl) ?_; dsimp only [Act.put]; simp only [List.setIfInBounds_toArray, List.set_cons_succ, List.set_cons_zero]
          refine tree_skip gtA (by rfl) ?_; dsimp only [Act.put]; simp only [List.setIfInBounds_toArray, List.set_cons_succ, List.set_cons_zero]
          refine tree_skip gtA (by rfl) ?_; dsimp only [Act.put]; simp only [List.setIfInBounds_toArray, List.set_cons_succ, List.set_cons_zero]
          refine tree_skip gtA (by rfl) ?_; dsimp only [Act.put]; simp only [List.setIfInBounds_toArray, List.set_cons_succ, List.set_cons_zero]
          refine tree_skip gtA (by rfl) ?_; dsimp only [Act.put]; simp only [List.setIfInBounds_toArray, List.set_cons_succ, List.set_cons_zero]
          refine tree_skip gtA (by rfl) ?_; dsimp only [Act.put]; simp only [List.setIfInBounds_toArray, List.set_cons_succ, List.set_cons_zero]
          refine tree_skip gtA (by rfl) ?_; dsimp only [Act.put]; simp only [List.setIfInBounds_toArray, List.set_cons_succ, List.set_cons_zero]
          refine tree_skip gtA (by rfl) ?_; dsimp only [Act.put]; simp only [List.setIfInBounds_toArray, List.set_cons_succ, List.set_cons_zero]
          refine tree_skip gtA (by rfl) ?_; dsimp only [Act.put]; simp only [List.setIfInBounds_toArray, List.set_cons_succ, List.set_cons_zero]
          (refine tree_quiet gtA (by rfl) (by rfl) (fun K_ hK_ => ?_); go_big_quiet_op; refine hK_ _ ?_; clear hK_ K_)
          (refine tree_run gtA (by rfl) (by rfl) (fun K_ hK_ => ?_); have HK_ := Lib.hid hK_; clear hK_; (first | ((refine wpStoreO 104 _ _ rfl w.heap.size _ #[.int .i64 2, .int .i64 0, .int .i64 2, .int .i64 1, .slice a n c, .slice (adv a c P3) (n - P3) (c - P3), .slice (adv a c P1) (n - P1) (c - P1), .slice a1 r1.length c1, .slice none 0 0, .slice none 0 0] rfl rfl K6.out size22 rfl (by simp [Value.oneCell']) ?_; intro wS hS hSo hSz hSb; have hSame : Same Y [w.heap.size] wS := ⟨Nat.le_of_eq hSz.symm, fun k _ hk => hSo k (by simpa using hk)⟩; (try dsimp only [Act.put]))) | (go_wp2_with (fail))); refine HK_.out _ _ (wld_ofA) ?_; clear HK_)
          (refine tree_quiet gtA (by rfl) (by rfl) (fun K_ hK_ => ?_); go_big_quiet_op; refine hK_ _ ?_; clear hK_ K_)
          refine tree_nil ?_
          clear hG_
          go_wp2_with fail
          have r6 := fun o => cell_of_heap hS o
          refine bodyPost_ret (v := .tuple #[.agg #[.int .i64 2, .int .i64 0, .int .i64 2, .int .i64 1, .slice a n c, .slice (adv a c P3) (n - P3) (c - P3), .slice (adv a c P1) (n - P1) (c - P1), .slice a1 r1.length c1, .slice none 0 0, .slice none 0 0], .bool false]) (by simp [results, Try.results54, go_sem, r6]) rfl ?_
          exact ⟨.inr ⟨HNO.out, noT⟩, by first | exact HBY.out.trans hSb | exact (bdrew1 HBY.out).trans hSb⟩
        obtain ⟨r2, hk2⟩ := hk2
        refine (HY2.out r2 hk2 V HBV.out).mono ?_
        rintro e w2 ⟨a2, c2, rfl, hhas2, hb2⟩
        have HAS2 := Lib.hid hhas2
        have HAS1W := Lib.hid (HASV.out.below hb2)
        have HK2 := Lib.hid hk2
        clear hhas2 hk2
        have l8 := (Array.getElem?_eq_some_iff.1 Z8.out).1
        have l6 := (Array.getElem?_eq_some_iff.1 Z6.out).1
        have y6 := (hb2.block _ l6).trans Z6.out
        have y8 := (hb2.block _ l8).trans Z8.out
        have q8 := fun o => cell_of_heap y8 o
        have f8 := fun o => froz_of_heap y8 o
        have m8 := (Array.getElem?_eq_some_iff.1 y8).1
        have hb2w := HBV.out.trans (hb2.mono HBV.out.size)
        obtain ⟨Y, hY⟩ : ∃ Y, Y = ((w2.setCell ⟨w.heap.size + 1, 8, none⟩ (.slice (adv a c P2) (n - P2) (c - P2))).setCell ⟨w.heap.size + 1, 9, none⟩ (.slice a2 r2.length c2)).setCell ⟨w.heap.size + 1, 5, none⟩ (.slice (adv a c P3) (n - P3) (c - P3)) := ⟨_, rfl⟩
        have hY' := hY
        have hbY : Below w.heap.size w Y := by rw [hY]; exact ((hb2w.setCell (p := ⟨w.heap.size + 1, 8, none⟩) (Nat.le_succ _) _).setCell (p := ⟨w.heap.size + 1, 9, none⟩) (Nat.le_succ _) _).setCell (p := ⟨w.heap.size + 1, 5, none⟩) (Nat.le_succ _) _
        have k8 : Y.heap[w.heap.size + 1]? = some (.cells #[.int .i64 2, .int .i64 0, .int .i64 2, .int .i64 1, .slice a n c, .slice (adv a c P3) (n - P3) (c - P3), .slice (adv a c P1) (n - P1) (c - P1), .slice a1 r1.length c1, .slice (adv a c P2) (n - P2) (c - P2), .slice a2 r2.length c2] 104 (0, 0)) := by rw [hY]; exact set_heap_at (o := 5) _ (set_heap_at (o := 9) _ (set_heap_at (o := 8) _ y8))
        have k6 : Y.heap[w.heap.size]? = some (.cells #[.int .i64 0, .int .i64 0, .int .i64 0, .int .i64 0, .slice none 0 0, .slice none 0 0, .slice none 0 0, .slice none 0 0, .slice none 0 0, .slice none 0 0] 104 (0, 0)) := by rw [hY]; exact (set_heap_other _ (by omega)).trans ((set_heap_other _ (by omega)).trans ((set_heap_other _ (by omega)).trans y6))
        have HBY := Lib.hid hbY
        have K8 := Lib.hid k8
        have K6 := Lib.hid k6
        have HASY1 := Lib.hid (show Has Y a1 (encRs r1) from by rw [hY']; exact has_far7 (has_far7 (has_far7 HAS1W.out (o := 8) y8 (noInt _ _ _ _ _ _ _ _ _ _ _ _ _ _ _ _ _ _ _ _ _ _) _) (o := 9) (set_heap_at (o := 8) _ y8) (noInt _ _ _ _ _ _ _ _ _ _ _ _ _ _ _ _ _ _ _ _ _ _) _) (o := 5) (set_heap_at (o := 9) _ (set_heap_at (o := 8) _ y8)) (noInt _ _ _ _ _ _ _ _ _ _ _ _ _ _ _ _ _ _ _ _ _ _) _)
        have HASY2 := Lib.hid (show Has Y a2 (encRs r2) from by rw [hY']; exact has_far7 (has_far7 (has_far7 HAS2.out (o := 8) y8 (noInt _ _ _ _ _ _ _ _ _ _ _ _ _ _ _ _ _ _ _ _ _ _) _) (o := 9) (set_heap_at (o := 8) _ y8) (noInt _ _ _ _ _ _ _ _ _ _ _ _ _ _ _ _ _ _ _ _ _ _) _) (o := 5) (set_heap_at (o := 9) _ (set_heap_at (o := 8) _ y8)) (noInt _ _ _ _ _ _ _ _ _ _ _ _ _ _ _ _ _ _ _ _ _ _) _)
        clear hY hbY k8 k6 y6 y8 hb2w
        go_wp2_with fail
        rw [← hY']
        clear hY' q8 f8 m8 l8 l6
        have q8 := fun o => cell_of_heap K8.out o
        have l8 := (Array.getElem?_eq_some_iff.1 K8.out).1
        have f6 := fun o => froz_of_heap K6.out o
        have q6 := fun o => cell_of_heap K6.out o
        have l6 := (Array.getElem?_eq_some_iff.1 K6.out).1
        have HM1 := Lib.hid (fun (Z : World) (hZ : Below Y.heap.size Y Z) => refmost_any (adv a c P1) (n - P1) (c - P1) (bs.drop P1) glyphs 2 a1 c1 r1 Z (by rw [← bytesV_drop]; exact (HH.out.below (HBY.out.trans (hZ.mono HBY.out.size))).adv c P1 (by rw [bytesV_length, HL.out]; exact hn)) (by rw [List.length_drop, HL.out]) (by omega) (HASY1.out.below hZ) hg2 (.inl rfl) HK1.out)
        have HM2 := Lib.hid (fun (Z : World) (hZ : Below Y.heap.size Y Z) => refmost_any (adv a c P2) (n - P2) (c - P2) (bs.drop P2) glyphs 2 a2 c2 r2 Z (by rw [← bytesV_drop]; exact (HH.out.below (HBY.out.trans (hZ.mono HBY.out.size))).adv c P2 (by rw [bytesV_length, HL.out]; exact hn)) (by rw [List.length_drop, HL.out]) (by omega) (HASY2.out.below hZ) hg2 (.inl rfl) HK2.out)
        have hm1 := mostR_le' (HK1.out.fit hg2 (.inl rfl))
        have hm2 := mostR_le' (HK2.out.fit hg2 (.inl rfl))
        obtain ⟨m1, he1⟩ : ∃ m, m = mostR (bs.drop P1) r1 := ⟨_, rfl⟩
        obtain ⟨m2, he2⟩ : ∃ m, m = mostR (bs.drop P2) r2 := ⟨_, rfl⟩
        rw [← he1] at HM1 hm1
        rw [← he2] at HM2 hm2
        have HE1 := Lib.hid he1
        have HE2 := Lib.hid he2
        clear he1 he2
        have w1_ : IntKind.i64.wrap ((m1 : Int) + (m2 : Int)) = (m1 : Int) + (m2 : Int) := IntWalk.i64_in _ (by omega)
        have w2_ : IntKind.i64.wrap (1 * ((m1 : Int) + (m2 : Int))) = 1 * ((m1 : Int) + (m2 : Int)) := IntWalk.i64_in _ (by omega)
        by_cases hfar : 1 * (m1 + m2) + 2 ≤ n - P3
        · have hd : decide ((0 : Int) ≤ 1 * ((m1 : Int) + (m2 : Int)) ∧ (0 : Int) ≤ 2 ∧ 1 * ((m1 : Int) + (m2 : Int)) ≤ ((n - P3 : Nat) : Int) ∧ 2 ≤ ((n - P3 : Nat) : Int) - 1 * ((m1 : Int) + (m2 : Int))) = true := by simp only [decide_eq_true_eq, decide_eq_false_iff_not]; omega
          have HIN := Lib.hid (fun (z : Int) (hz : z = 1 * ((m1 : Int) + (m2 : Int))) (Z : World) => show Calls Try.prog 73 #[.int .i64 ((n - P3 : Nat) : Int), .int .i64 z, .int .i64 2] Z fun e w' => e = .returned (.bool true) ∧ Z = w' from by have hin := in_any (n - P3) (1 * ((m1 : Int) + (m2 : Int))) 2 Z (by omega) (by omega) (by decide); rw [hd] at hin; subst hz; exact hin)
          clear hd
          refine wp_region_tree (.step 0 (.step 1 (.step 2 (.step 3 (.step 4 (.step 5 (.step 6 (.step 7 (.step 8 (.step 9 (.step 10 (.step 11 (.step 13 (.step 14 (.step 18 (.step 19 (.step 12 (.step 15 (.step 16 (.step 17 (.step 20 (.step 21 (.step 22 (.step 23 .nil)))))))))))))))))))))))) (by kernel_rfl) (by kernel_rfl) (by kernel_rfl) (by kernel_rfl) (by intro _ _ d_ _ _ h_; cases d_ <;> first | exact h_ | (dsimp +zetaDelta only at h_ ⊢; exact h_)) (fun w' => ∃ p : Wld Y [w.heap.size], w' = p.val) (wld_start _ _) ?_
          have hG_ := @wldC1 Y w.heap.size
          (refine tree_quiet gtA (by rfl) (by rfl) (fun K_ hK_ => ?_); go_big_quiet_op; refine hK_ _ ?_; clear hK_ K_)
          (refine tree_quiet gtA (by rfl) (by rfl) (fun K_ hK_ => ?_); go_big_quiet_op; refine hK_ _ ?_; clear hK_ K_)
          (refine tree_quiet gtA (by rfl) (by rfl) (fun K_ hK_ => ?_); go_big_quiet_op; refine hK_ _ ?_; clear hK_ K_)
          (refine tree_quiet gtA (by rfl) (by rfl) (fun K_ hK_ => ?_); go_big_quiet_op; refine hK_ _ ?_; clear hK_ K_)
          (refine tree_quiet gtA (by rfl) (by rfl) (fun K_ hK_ => ?_); go_big_quiet_op; refine hK_ _ ?_; clear hK_ K_)
          (refine tree_quiet gtA (by rfl) (by rfl) (fun K_ hK_ => ?_); go_big_quiet_op; refine hK_ _ ?_; clear hK_ K_)
          (refine tree_quiet gtA (by rfl) (by rfl) (fun K_ hK_ => ?_); go_big_quiet_op; refine hK_ _ ?_; clear hK_ K_)
          (refine tree_quiet gtA (by rfl) (by rfl) (fun K_ hK_ => ?_); go_big_quiet_op; refine hK_ _ ?_; clear hK_ K_)
          (refine tree_quiet gtA (by rfl) (by rfl) (fun K_ hK_ => ?_); go_big_quiet_op; refine hK_ _ ?_; clear hK_ K_)
          (refine tree_quiet gtA (by rfl) (by rfl) (fun K_ hK_ => ?_); go_big_quiet_op; refine hK_ _ ?_; clear hK_ K_)
          (refine tree_quiet gtA (by rfl) (by rfl) (fun K_ hK_ => ?_); go_big_quiet_op; refine hK_ _ ?_; clear hK_ K_)
          (refine tree_quiet gtA (by rfl) (by rfl) (fun K_ hK_ => ?_); go_big_quiet_op; refine hK_ _ ?_; clear hK_ K_)
          (refine tree_quiet gtA (by rfl) (by rfl) (fun K_ hK_ => ?_); go_big_quiet_op; refine hK_ _ ?_; clear hK_ K_)
          (refine tree_quiet gtA (by rfl) (by rfl) (fun K_ hK_ => ?_); go_big_quiet_op; refine hK_ _ ?_; clear hK_ K_)
          (refine tree_quiet gtA (by rfl) (by rfl) (fun K_ hK_ => ?_); go_big_quiet_op; refine hK_ _ ?_; clear hK_ K_)
          (refine tree_quiet gtA (by rfl) (by rfl) (fun K_ hK_ => ?_); go_big_quiet_op; refine hK_ _ ?_; clear hK_ K_)
          (refine tree_run gtA (by rfl) (by rfl) (fun K_ hK_ => ?_); have HK_ := Lib.hid hK_; clear hK_; (first | ((refine wpStoreO 104 _ _ rfl w.heap.size _ #[.int .i64 2, .int .i64 0, .int .i64 2, .int .i64 1, .slice a n c, .slice (adv a c P3) (n - P3) (c - P3), .slice (adv a c P1) (n - P1) (c - P1), .slice a1 r1.length c1, .slice (adv a c P2) (n - P2) (c - P2), .slice a2 r2.length c2] rfl rfl ((show Below Y.heap.size Y _ from by exact blw).block _ l6 |>.trans K6.out) size22 rfl (by simp [Value.oneCell']) ?_; intro wS hS hSo hSz hSb; have hSame : Same Y [w.heap.size] wS := ⟨Nat.le_trans (show Below Y.heap.size Y w5 from by exact blw).size (Nat.le_of_eq hSz.symm), fun k hk hx => (hSo k (by simpa using hx)).trans ((show Below Y.heap.size Y w5 from by exact blw).block k hk)⟩; (try dsimp only [Act.put]))) | (go_wp2_with (first | (go_at_call 99; (with_reducible refine (HM1.out _ (by exact blw)).mono ?_); rintro e w4 ⟨rfl, hb4⟩; have h4c := bc hb4; have h4f := bf hb4; have h4z := hb4.size; try simp only [World.size_alloc, World.size_drew] at h4z) | (go_at_call 99; (with_reducible refine (HM2.out _ (by exact blw)).mono ?_); rintro e w5 ⟨rfl, hb5⟩; have h5c := bc hb5; have h5f := bf hb5; have h5z := hb5.size; try simp only [World.size_alloc, World.size_drew] at h5z) | (go_at_call 73; (with_reducible refine (HIN.out _ (by first | rfl | omega) _).mono ?_); rintro e w_ ⟨rfl, rfl⟩)))); refine HK_.out _ _ (wld_ofA) ?_; clear HK_)
          (refine tree_run gtA (by rfl) (by rfl) (fun K_ hK_ => ?_); have HK_ := Lib.hid hK_; clear hK_; (first | ((refine wpStoreO 104 _ _ rfl w.heap.size _ #[.int .i64 2, .int .i64 0, .int .i64 2, .int .i64 1, .slice a n c, .slice (adv a c P3) (n - P3) (c - P3), .slice (adv a c P1) (n - P1) (c - P1), .slice a1 r1.length c1, .slice (adv a c P2) (n - P2) (c - P2), .slice a2 r2.length c2] rfl rfl ((show Below Y.heap.size Y _ from by exact blw).block _ l6 |>.trans K6.out) size22 rfl (by simp [Value.oneCell']) ?_; intro wS hS hSo hSz hSb; have hSame : Same Y [w.heap.size] wS := ⟨Nat.le_trans (show Below Y.heap.size Y w5 from by exact blw).size (Nat.le_of_eq hSz.symm), fun k hk hx => (hSo k (by simpa using hx)).trans ((show Below Y.heap.size Y w5 from by exact blw).block k hk)⟩; (try dsimp only [Act.put]))) | (go_wp2_with (first | (go_at_call 99; (with_reducible refine (HM1.out _ (by exact blw)).mono ?_); rintro e w4 ⟨rfl, hb4⟩; have h4c := bc hb4; have h4f := bf hb4; have h4z := hb4.size; try simp only [World.size_alloc, World.size_drew] at h4z) | (go_at_call 99; (with_reducible refine (HM2.out _ (by exact blw)).mono ?_); rintro e w5 ⟨rfl, hb5⟩; have h5c := bc hb5; have h5f := bf hb5; have h5z := hb5.size; try simp only [World.size_alloc, World.size_drew] at h5z) | (go_at_call 73; (with_reducible refine (HIN.out _ (by first | rfl | omega) _).mono ?_); rintro e w_ ⟨rfl, rfl⟩)))); refine HK_.out _ _ (wld_ofA) ?_; clear HK_)
          (refine tree_quiet gtA (by rfl) (by rfl) (fun K_ hK_ => ?_); go_big_quiet_op; refine hK_ _ ?_; clear hK_ K_)
          (refine tree_quiet gtA (by rfl) (by rfl) (fun K_ hK_ => ?_); go_big_quiet_op; refine hK_ _ ?_; clear hK_ K_)
          (refine tree_run gtA (by rfl) (by rfl) (fun K_ hK_ => ?_); have HK_ := Lib.hid hK_; clear hK_; (first | ((refine wpStoreO 104 _ _ rfl w.heap.size _ #[.int .i64 2, .int .i64 0, .int .i64 2, .int .i64 1, .slice a n c, .slice (adv a c P3) (n - P3) (c - P3), .slice (adv a c P1) (n - P1) (c - P1), .slice a1 r1.length c1, .slice (adv a c P2) (n - P2) (c - P2), .slice a2 r2.length c2] rfl rfl ((show Below Y.heap.size Y _ from by exact blw).block _ l6 |>.trans K6.out) size22 rfl (by simp [Value.oneCell']) ?_; intro wS hS hSo hSz hSb; have hSame : Same Y [w.heap.size] wS := ⟨Nat.le_trans (show Below Y.heap.size Y w5 from by exact blw).size (Nat.le_of_eq hSz.symm), fun k hk hx => (hSo k (by simpa using hx)).trans ((show Below Y.heap.size Y w5 from by exact blw).block k hk)⟩; (try dsimp only [Act.put]))) | (go_wp2_with (first | (go_at_call 99; (with_reducible refine (HM1.out _ (by exact blw)).mono ?_); rintro e w4 ⟨rfl, hb4⟩; have h4c := bc hb4; have h4f := bf hb4; have h4z := hb4.size; try simp only [World.size_alloc, World.size_drew] at h4z) | (go_at_call 99; (with_reducible refine (HM2.out _ (by exact blw)).mono ?_); rintro e w5 ⟨rfl, hb5⟩; have h5c := bc hb5; have h5f := bf hb5; have h5z := hb5.size; try simp only [World.size_alloc, World.size_drew] at h5z) | (go_at_call 73; (with_reducible refine (HIN.out _ (by first | rfl | omega) _).mono ?_); rintro e w_ ⟨rfl, rfl⟩)))); refine HK_.out _ _ (wld_ofA) ?_; clear HK_)
          (refine tree_quiet gtA (by rfl) (by rfl) (fun K_ hK_ => ?_); go_big_quiet_op; refine hK_ _ ?_; clear hK_ K_)
          (refine tree_run gtA (by rfl) (by rfl) (fun K_ hK_ => ?_); have HK_ := Lib.hid hK_; clear hK_; (first | ((refine wpStoreO 104 _ _ rfl w.heap.size _ #[.int .i64 2, .int .i64 0, .int .i64 2, .int .i64 1, .slice a n c, .slice (adv a c P3) (n - P3) (c - P3), .slice (adv a c P1) (n - P1) (c - P1), .slice a1 r1.length c1, .slice (adv a c P2) (n - P2) (c - P2), .slice a2 r2.length c2] rfl rfl ((show Below Y.heap.size Y _ from by exact blw).block _ l6 |>.trans K6.out) size22 rfl (by simp [Value.oneCell']) ?_; intro wS hS hSo hSz hSb; have hSame : Same Y [w.heap.size] wS := ⟨Nat.le_trans (show Below Y.heap.size Y w5 from by exact blw).size (Nat.le_of_eq hSz.symm), fun k hk hx => (hSo k (by simpa using hx)).trans ((show Below Y.heap.size Y w5 from by exact blw).block k hk)⟩; (try dsimp only [Act.put]))) | (go_wp2_with (first | (go_at_call 99; (with_reducible refine (HM1.out _ (by exact blw)).mono ?_); rintro e w4 ⟨rfl, hb4⟩; have h4c := bc hb4; have h4f := bf hb4; have h4z := hb4.size; try simp only [World.size_alloc, World.size_drew] at h4z) | (go_at_call 99; (with_reducible refine (HM2.out _ (by exact blw)).mono ?_); rintro e w5 ⟨rfl, hb5⟩; have h5c := bc hb5; have h5f := bf hb5; have h5z := hb5.size; try simp only [World.size_alloc, World.size_drew] at h5z) | (go_at_call 73; (with_reducible refine (HIN.out _ (by first | rfl | omega) _).mono ?_); rintro e w_ ⟨rfl, rfl⟩)))); refine HK_.out _ _ (wld_ofA) ?_; clear HK_)
          (refine tree_quiet gtA (by rfl) (by rfl) (fun K_ hK_ => ?_); go_big_quiet_op; refine hK_ _ ?_; clear hK_ K_)
          refine tree_nil ?_
          clear hG_
          have hbl : Below Y.heap.size Y w5 := by exact blw
          have HBL := Lib.hid hbl
          clear hbl
          go_wp2_with fail
          have r6 := fun o => cell_of_heap hS o
          refine bodyPost_ret (v := .tuple #[.agg #[.int .i64 2, .int .i64 0, .int .i64 2, .int .i64 1, .slice a n c, .slice (adv a c P3) (n - P3) (c - P3), .slice (adv a c P1) (n - P1) (c - P1), .slice a1 r1.length c1, .slice (adv a c P2) (n - P2) (c - P2), .slice a2 r2.length c2], .bool true]) (by simp [results, Try.results54, go_sem, r6]) rfl ?_
          exact ⟨.inl ⟨r1, r2, a1, c1, a2, c2, ⟨by rw [HL.out]; omega, by rw [HL.out, ← HN1.out]; exact hle1, by rw [HL.out, ← HN2.out]; exact hle2, by rw [HL.out, ← HN3.out]; exact hle3, by rw [← HN1.out]; exact HK1.out, by rw [← HN2.out]; exact HK2.out, by rw [HL.out, ← HN1.out, ← HN2.out, ← HN3.out, ← HE1.out, ← HE2.out]; exact hfar⟩, by rw [← HN1.out, ← HN2.out, ← HN3.out]; rfl, (has_farS (HASY1.out.below HBL.out) ((HBL.out.block _ l6).trans K6.out) (noInt _ _ _ _ _ _ _ _ _ _ _ _ _ _ _ _ _ _ _ _ _ _) hSo), (has_farS (HASY2.out.below HBL.out) ((HBL.out.block _ l6).trans K6.out) (noInt _ _ _ _ _ _ _ _ _ _ _ _ _ _ _ _ _ _ _ _ _ _) hSo)⟩, (HBY.out.trans (HBL.out.mono HBY.out.size)).trans hSb⟩
        · have hd : decide ((0 : Int) ≤ 1 * ((m1 : Int) + (m2 : Int)) ∧ (0 : Int) ≤ 2 ∧ 1 * ((m1 : Int) + (m2 : Int)) ≤ ((n - P3 : Nat) : Int) ∧ 2 ≤ ((n - P3 : Nat) : Int) - 1 * ((m1 : Int) + (m2 : Int))) = false := by simp only [decide_eq_true_eq, decide_eq_false_iff_not]; omega
          have HIN := Lib.hid (fun (z : Int) (hz : z = 1 * ((m1 : Int) + (m2 : Int))) (Z : World) => show Calls Try.prog 73 #[.int .i64 ((n - P3 : Nat) : Int), .int .i64 z, .int .i64 2] Z fun e w' => e = .returned (.bool false) ∧ Z = w' from by have hin := in_any (n - P3) (1 * ((m1 : Int) + (m2 : Int))) 2 Z (by omega) (by omega) (by decide); rw [hd] at hin; subst hz; exact hin)
          clear hd
          refine wp_region_tree (.step 0 (.step 1 (.step 2 (.step 3 (.step 4 (.step 5 (.step 6 (.step 7 (.step 8 (.step 9 (.step 10 (.step 11 (.step 13 (.step 14 (.step 18 (.step 19 (.step 12 (.step 15 (.step 16 (.step 17 (.step 20 (.step 21 (.step 22 (.step 23 .nil)))))))))))))))))))))))) (by kernel_rfl) (by kernel_rfl) (by kernel_rfl) (by kernel_rfl) (by intro _ _ d_ _ _ h_; cases d_ <;> first | exact h_ | (dsimp +zetaDelta only at h_ ⊢; exact h_)) (fun w' => ∃ p : Wld Y [w.heap.size], w' = p.val) (wld_start _ _) ?_
          have hG_ := @wldC1 Y w.heap.size
          (refine tree_quiet gtA (by rfl) (by rfl) (fun K_ hK_ => ?_); go_big_quiet_op; refine hK_ _ ?_; clear hK_ K_)
          (refine tree_quiet gtA (by rfl) (by rfl) (fun K_ hK_ => ?_); go_big_quiet_op; refine hK_ _ ?_; clear hK_ K_)
          (refine tree_quiet gtA (by rfl) (by rfl) (fun K_ hK_ => ?_); go_big_quiet_op; refine hK_ _ ?_; clear hK_ K_)
          (refine tree_quiet gtA (by rfl) (by rfl) (fun K_ hK_ => ?_); go_big_quiet_op; refine hK_ _ ?_; clear hK_ K_)
          (refine tree_quiet gtA (by rfl) (by rfl) (fun K_ hK_ => ?_); go_big_quiet_op; refine hK_ _ ?_; clear hK_ K_)
          (refine tree_quiet gtA (by rfl) (by rfl) (fun K_ hK_ => ?_); go_big_quiet_op; refine hK_ _ ?_; clear hK_ K_)
          (refine tree_quiet gtA (by rfl) (by rfl) (fun K_ hK_ => ?_); go_big_quiet_op; refine hK_ _ ?_; clear hK_ K_)
          (refine tree_quiet gtA (by rfl) (by rfl) (fun K_ hK_ => ?_); go_big_quiet_op; refine hK_ _ ?_; clear hK_ K_)
          (refine tree_quiet gtA (by rfl) (by rfl) (fun K_ hK_ => ?_); go_big_quiet_op; refine hK_ _ ?_; clear hK_ K_)
          (refine tree_quiet gtA (by rfl) (by rfl) (fun K_ hK_ => ?_); go_big_quiet_op; refine hK_ _ ?_; clear hK_ K_)
          (refine tree_quiet gtA (by rfl) (by rfl) (fun K_ hK_ => ?_); go_big_quiet_op; refine hK_ _ ?_; clear hK_ K_)
          (refine tree_quiet gtA (by rfl) (by rfl) (fun K_ hK_ => ?_); go_big_quiet_op; refine hK_ _ ?_; clear hK_ K_)
          (refine tree_quiet gtA (by rfl) (by rfl) (fun K_ hK_ => ?_); go_big_quiet_op; refine hK_ _ ?_; clear hK_ K_)
          (refine tree_quiet gtA (by rfl) (by rfl) (fun K_ hK_ => ?_); go_big_quiet_op; refine hK_ _ ?_; clear hK_ K_)
          (refine tree_quiet gtA (by rfl) (by rfl) (fun K_ hK_ => ?_); go_big_quiet_op; refine hK_ _ ?_; clear hK_ K_)
          (refine tree_quiet gtA (by rfl) (by rfl) (fun K_ hK_ => ?_); go_big_quiet_op; refine hK_ _ ?_; clear hK_ K_)
          (refine tree_run gtA (by rfl) (by rfl) (fun K_ hK_ => ?_); have HK_ := Lib.hid hK_; clear hK_; (first | ((refine wpStoreO 104 _ _ rfl w.heap.size _ #[.int .i64 2, .int .i64 0, .int .i64 2, .int .i64 1, .slice a n c, .slice (adv a c P3) (n - P3) (c - P3), .slice (adv a c P1) (n - P1) (c - P1), .slice a1 r1.length c1, .slice (adv a c P2) (n - P2) (c - P2), .slice a2 r2.length c2] rfl rfl ((show Below Y.heap.size Y _ from by exact blw).block _ l6 |>.trans K6.out) size22 rfl (by simp [Value.oneCell']) ?_; intro wS hS hSo hSz hSb; have hSame : Same Y [w.heap.size] wS := ⟨Nat.le_trans (show Below Y.heap.size Y w5 from by exact blw).size (Nat.le_of_eq hSz.symm), fun k hk hx => (hSo k (by simpa using hx)).trans ((show Below Y.heap.size Y w5 from by exact blw).block k hk)⟩; (try dsimp only [Act.put]))) | (go_wp2_with (first | (go_at_call 99; (with_reducible refine (HM1.out _ (by exact blw)).mono ?_); rintro e w4 ⟨rfl, hb4⟩; have h4c := bc hb4; have h4f := bf hb4; have h4z := hb4.size; try simp only [World.size_alloc, World.size_drew] at h4z) | (go_at_call 99; (with_reducible refine (HM2.out _ (by exact blw)).mono ?_); rintro e w5 ⟨rfl, hb5⟩; have h5c := bc hb5; have h5f := bf hb5; have h5z := hb5.size; try simp only [World.size_alloc, World.size_drew] at h5z) | (go_at_call 73; (with_reducible refine (HIN.out _ (by first | rfl | omega) _).mono ?_); rintro e w_ ⟨rfl, rfl⟩)))); refine HK_.out _ _ (wld_ofA) ?_; clear HK_)
          (refine tree_run gtA (by rfl) (by rfl) (fun K_ hK_ => ?_); have HK_ := Lib.hid hK_; clear hK_; (first | ((refine wpStoreO 104 _ _ rfl w.heap.size _ #[.int .i64 2, .int .i64 0, .int .i64 2, .int .i64 1, .slice a n c, .slice (adv a c P3) (n - P3) (c - P3), .slice (adv a c P1) (n - P1) (c - P1), .slice a1 r1.length c1, .slice (adv a c P2) (n - P2) (c - P2), .slice a2 r2.length c2] rfl rfl ((show Below Y.heap.size Y _ from by exact blw).block _ l6 |>.trans K6.out) size22 rfl (by simp [Value.oneCell']) ?_; intro wS hS hSo hSz hSb; have hSame : Same Y [w.heap.size] wS := ⟨Nat.le_trans (show Below Y.heap.size Y w5 from by exact blw).size (Nat.le_of_eq hSz.symm), fun k hk hx => (hSo k (by simpa using hx)).trans ((show Below Y.heap.size Y w5 from by exact blw).block k hk)⟩; (try dsimp only [Act.put]))) | (go_wp2_with (first | (go_at_call 99; (with_reducible refine (HM1.out _ (by exact blw)).mono ?_); rintro e w4 ⟨rfl, hb4⟩; have h4c := bc hb4; have h4f := bf hb4; have h4z := hb4.size; try simp only [World.size_alloc, World.size_drew] at h4z) | (go_at_call 99; (with_reducible refine (HM2.out _ (by exact blw)).mono ?_); rintro e w5 ⟨rfl, hb5⟩; have h5c := bc hb5; have h5f := bf hb5; have h5z := hb5.size; try simp only [World.size_alloc, World.size_drew] at h5z) | (go_at_call 73; (with_reducible refine (HIN.out _ (by first | rfl | omega) _).mono ?_); rintro e w_ ⟨rfl, rfl⟩)))); refine HK_.out _ _ (wld_ofA) ?_; clear HK_)
          (refine tree_quiet gtA (by rfl) (by rfl) (fun K_ hK_ => ?_); go_big_quiet_op; refine hK_ _ ?_; clear hK_ K_)
          (refine tree_quiet gtA (by rfl) (by rfl) (fun K_ hK_ => ?_); go_big_quiet_op; refine hK_ _ ?_; clear hK_ K_)
          (refine tree_run gtA (by rfl) (by rfl) (fun K_ hK_ => ?_); have HK_ := Lib.hid hK_; clear hK_; (first | ((refine wpStoreO 104 _ _ rfl w.heap.size _ #[.int .i64 2, .int .i64 0, .int .i64 2, .int .i64 1, .slice a n c, .slice (adv a c P3) (n - P3) (c - P3), .slice (adv a c P1) (n - P1) (c - P1), .slice a1 r1.length c1, .slice (adv a c P2) (n - P2) (c - P2), .slice a2 r2.length c2] rfl rfl ((show Below Y.heap.size Y _ from by exact blw).block _ l6 |>.trans K6.out) size22 rfl (by simp [Value.oneCell']) ?_; intro wS hS hSo hSz hSb; have hSame : Same Y [w.heap.size] wS := ⟨Nat.le_trans (show Below Y.heap.size Y w5 from by exact blw).size (Nat.le_of_eq hSz.symm), fun k hk hx => (hSo k (by simpa using hx)).trans ((show Below Y.heap.size Y w5 from by exact blw).block k hk)⟩; (try dsimp only [Act.put]))) | (go_wp2_with (first | (go_at_call 99; (with_reducible refine (HM1.out _ (by exact blw)).mono ?_); rintro e w4 ⟨rfl, hb4⟩; have h4c := bc hb4; have h4f := bf hb4; have h4z := hb4.size; try simp only [World.size_alloc, World.size_drew] at h4z) | (go_at_call 99; (with_reducible refine (HM2.out _ (by exact blw)).mono ?_); rintro e w5 ⟨rfl, hb5⟩; have h5c := bc hb5; have h5f := bf hb5; have h5z := hb5.size; try simp only [World.size_alloc, World.size_drew] at h5z) | (go_at_call 73; (with_reducible refine (HIN.out _ (by first | rfl | omega) _).mono ?_); rintro e w_ ⟨rfl, rfl⟩)))); refine HK_.out _ _ (wld_ofA) ?_; clear HK_)
          (refine tree_quiet gtA (by rfl) (by rfl) (fun K_ hK_ => ?_); go_big_quiet_op; refine hK_ _ ?_; clear hK_ K_)
          (refine tree_run gtA (by rfl) (by rfl) (fun K_ hK_ => ?_); have HK_ := Lib.hid hK_; clear hK_; (first | ((refine wpStoreO 104 _ _ rfl w.heap.size _ #[.int .i64 2, .int .i64 0, .int .i64 2, .int .i64 1, .slice a n c, .slice (adv a c P3) (n - P3) (c - P3), .slice (adv a c P1) (n - P1) (c - P1), .slice a1 r1.length c1, .slice (adv a c P2) (n - P2) (c - P2), .slice a2 r2.length c2] rfl rfl ((show Below Y.heap.size Y _ from by exact blw).block _ l6 |>.trans K6.out) size22 rfl (by simp [Value.oneCell']) ?_; intro wS hS hSo hSz hSb; have hSame : Same Y [w.heap.size] wS := ⟨Nat.le_trans (show Below Y.heap.size Y w5 from by exact blw).size (Nat.le_of_eq hSz.symm), fun k hk hx => (hSo k (by simpa using hx)).trans ((show Below Y.heap.size Y w5 from by exact blw).block k hk)⟩; (try dsimp only [Act.put]))) | (go_wp2_with (first | (go_at_call 99; (with_reducible refine (HM1.out _ (by exact blw)).mono ?_); rintro e w4 ⟨rfl, hb4⟩; have h4c := bc hb4; have h4f := bf hb4; have h4z := hb4.size; try simp only [World.size_alloc, World.size_drew] at h4z) | (go_at_call 99; (with_reducible refine (HM2.out _ (by exact blw)).mono ?_); rintro e w5 ⟨rfl, hb5⟩; have h5c := bc hb5; have h5f := bf hb5; have h5z := hb5.size; try simp only [World.size_alloc, World.size_drew] at h5z) | (go_at_call 73; (with_reducible refine (HIN.out _ (by first | rfl | omega) _).mono ?_); rintro e w_ ⟨rfl, rfl⟩)))); refine HK_.out _ _ (wld_ofA) ?_; clear HK_)
          (refine tree_quiet gtA (by rfl) (by rfl) (fun K_ hK_ => ?_); go_big_quiet_op; refine hK_ _ ?_; clear hK_ K_)
          refine tree_nil ?_
          clear hG_
          have hbl : Below Y.heap.size Y w5 := by exact blw
          have HBL := Lib.hid hbl
          clear hbl
          go_wp2_with fail
          have r6 := fun o => cell_of_heap hS o
          refine bodyPost_ret (v := .tuple #[.agg #[.int .i64 2, .int .i64 0, .int .i64 2, .int .i64 1, .slice a n c, .slice (adv a c P3) (n - P3) (c - P3), .slice (adv a c P1) (n - P1) (c - P1), .slice a1 r1.length c1, .slice (adv a c P2) (n - P2) (c - P2), .slice a2 r2.length c2], .bool false]) (by simp [results, Try.results54, go_sem, r6]) rfl ?_
          exact ⟨.inr ⟨fun q1 q2 ho => by
            have e1 := ho.lk1
            have e2 := ho.lk2
            have e3 := ho.far
            rw [← HN1.out] at e1 e3
            rw [← HN2.out] at e2 e3
            obtain rfl := e1.det HK1.out
            obtain rfl := e2.det HK2.out
            rw [← HE1.out, ← HE2.out, ← HN3.out, HL.out] at e3
            exact hfar e3, noT⟩, (HBY.out.trans (HBL.out.mono HBY.out.size)).trans hSb⟩
end Go.Proofs.Ytbicnkopmamnpaa
end
