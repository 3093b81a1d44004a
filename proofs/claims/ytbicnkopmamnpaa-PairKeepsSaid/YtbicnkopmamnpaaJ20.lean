/- Joined from: PrRefI. -/
import Derived.Test.YtbicnkopmamnpaaJ01
import Derived.Test.YtbicnkopmamnpaaJ19
section

/- The document's Read of an Index of distances. Conditions: bytes as the slice says; sizes. -/
namespace Go.Proofs.Ytbicnkopmamnpaa
open Go.RowKit Go.Lib

set_option maxRecDepth 100000 in
set_option maxHeartbeats 25600000 in
theorem prefG6_any (a : Option Addr) (n c : Nat) (bs : List UInt8) (glyphs : Nat) (w : World) (h : Has w a (bytesV bs)) (hl : bs.length = n) (hn : n ≤ c) (hc : c ≤ maxLen) (h20 : n ≤ 4000) (hg1 : 1 ≤ glyphs) (hg2 : glyphs ≤ 65535) :
    Calls Try.prog 54 #[.int .i64 6, .slice a n c, .int .i64 (glyphs : Nat)] w (PGIs a n c bs 6 glyphs 8 (sizI bs) (sizI bs) w) := by
  have hAC := allocC
  have hAF := allocF
  have hnm : n ≤ maxLen := Nat.le_trans hn hc
  have HU := Lib.hid (fun (k : Nat) (z : Int) (hz : z = (k : Nat)) (hk : k ≤ 1000000000000) (W : World) (hW : Below w.heap.size w W) => qU_any a n c bs k z hz W (h.below hW) hl hnm hk)
  have HL := Lib.hid hl
  have HH := Lib.hid h
  clear h hl
  obtain ⟨X1, hX⟩ : ∃ X1, X1 = (w.alloc (Obj.cells #[.int .i64 0, .int .i64 0, .int .i64 0, .int .i64 0, .slice none 0 0, .slice none 0 0, .slice none 0 0, .slice none 0 0, .slice none 0 0, .slice none 0 0] 104)).alloc (Obj.cells #[.int .i64 6, .int .i64 0, .int .i64 2, .int .i64 2, .slice a n c, .slice none 0 0, .slice none 0 0, .slice none 0 0, .slice none 0 0, .slice none 0 0] 104) := ⟨_, rfl⟩
  have hbX1 : Below w.heap.size w X1 := by rw [hX]; exact balloc (balloc (brefl w) _) _
  have x6 : X1.heap[w.heap.size]? = some (.cells #[.int .i64 0, .int .i64 0, .int .i64 0, .int .i64 0, .slice none 0 0, .slice none 0 0, .slice none 0 0, .slice none 0 0, .slice none 0 0, .slice none 0 0] 104 (0, 0)) := by rw [hX, heap_push, if_neg (by simp), heap_push, if_pos rfl]
  have x8 : X1.heap[w.heap.size + 1]? = some (.cells #[.int .i64 6, .int .i64 0, .int .i64 2, .int .i64 2, .slice a n c, .slice none 0 0, .slice none 0 0, .slice none 0 0, .slice none 0 0, .slice none 0 0] 104 (0, 0)) := by rw [hX, heap_push, if_pos (by simp)]
  have HBX1 := Lib.hid hbX1
  have Y61 := Lib.hid x6
  have Y81 := Lib.hid x8
  clear hbX1 x6 x8
  have HU0 := Lib.hid (HU.out 0 0 rfl (by decide))
  have hqb0 := qU_bound bs 0
  obtain ⟨Q0, hQ0⟩ : ∃ Q, Q = qU bs 0 := ⟨_, rfl⟩
  rw [← hQ0] at HU0 hqb0
  have HQ0 := Lib.hid hQ0
  clear hQ0
  by_cases hneg : Q0 < 0
  · have d0 : decide (Q0 < 0) = true := by simpa using hneg
    have HNO := Lib.hid (show ∀ r1 r2, ¬ GridOk bs 8 (sizI bs) (sizI bs) glyphs r1 r2 from fun r1 r2 ho => by
      have h1 := HQ0.out
      have h2 := ho.len
      unfold qU at h1
      rw [if_pos (by omega)] at h1
      omega)
    go_enter Try.func54, Try.ntmps54
    go_wp2_with fail
    rw [← hX]
    clear hX
    refine (HU0.out X1 HBX1.out).mono ?_
    rintro e w_ ⟨rfl, rfl⟩
    have q8 := fun o => cell_of_heap Y81.out o
    have l8 := (Array.getElem?_eq_some_iff.1 Y81.out).1
    have q6 := fun o => cell_of_heap Y61.out o
    have f6 := fun o => froz_of_heap Y61.out o
    have l6 := (Array.getElem?_eq_some_iff.1 Y61.out).1
    have z6 := heap10_at Y61.out (.int .i64 6) (.int .i64 0) (.int .i64 2) (.int .i64 2) (.slice a n c) (.slice none 0 0) (.slice none 0 0) (.slice none 0 0) (.slice none 0 0) (.slice none 0 0)
    have r6 := fun o => cell_of_heap z6 o
    go_wp2_with fail
    refine bodyPost_ret (v := .tuple #[.agg #[.int .i64 6, .int .i64 0, .int .i64 2, .int .i64 2, .slice a n c, .slice none 0 0, .slice none 0 0, .slice none 0 0, .slice none 0 0, .slice none 0 0], .bool false]) (by simp [results, Try.results54, go_sem, r6]) rfl ?_
    exact ⟨.inr ⟨HNO.out, noT⟩, below10 HBX1.out (Nat.le_refl _) _ _ _ _ _ _ _ _ _ _⟩
  have d0 : decide (Q0 < 0) = false := by simpa using hneg
  obtain ⟨F, rfl⟩ : ∃ F : Nat, Q0 = (F : Nat) := ⟨Q0.toNat, by omega⟩
  obtain ⟨hu0, hF⟩ := qU_yes HQ0.out.symm
  have HSZ := Lib.hid (show sizI bs = if F % 2 = 1 then 4 else 2 by rw [hF]; rfl)
  have etm : (F : Int).tmod 2 = ((F % 2 : Nat) : Int) := by rw [Int.tmod_eq_emod_of_nonneg (by omega)]; omega
  clear hneg hF hu0 HQ0
  by_cases hodd : F % 2 = 1
  · rw [show sizI bs = 4 by rw [HSZ.out, if_pos hodd]]
    rw [hodd] at etm
    clear hodd HSZ
    obtain ⟨X, hX2⟩ : ∃ X, X = (X1.setCell ⟨w.heap.size + 1, 2, none⟩ (.int .i64 4)).setCell ⟨w.heap.size + 1, 3, none⟩ (.int .i64 4) := ⟨_, rfl⟩
    have HBX := Lib.hid (show Below w.heap.size w X by rw [hX2]; exact (HBX1.out.setCell (p := ⟨w.heap.size + 1, 2, none⟩) (Nat.le_succ _) _).setCell (p := ⟨w.heap.size + 1, 3, none⟩) (Nat.le_succ _) _)
    have Y6 := Lib.hid (show X.heap[w.heap.size]? = some (.cells #[.int .i64 0, .int .i64 0, .int .i64 0, .int .i64 0, .slice none 0 0, .slice none 0 0, .slice none 0 0, .slice none 0 0, .slice none 0 0, .slice none 0 0] 104 (0, 0)) by rw [hX2]; exact (set_heap_other _ (by omega)).trans ((set_heap_other _ (by omega)).trans Y61.out))
    have Y8 := Lib.hid (show X.heap[w.heap.size + 1]? = some (.cells #[.int .i64 6, .int .i64 0, .int .i64 4, .int .i64 4, .slice a n c, .slice none 0 0, .slice none 0 0, .slice none 0 0, .slice none 0 0, .slice none 0 0] 104 (0, 0)) by rw [hX2]; exact set_heap_at (o := 3) _ (set_heap_at (o := 2) _ Y81.out))
    go_enter Try.func54, Try.ntmps54
    go_wp2_with fail
    rw [← hX]
    clear hX
    refine (HU0.out X1 HBX1.out).mono ?_
    rintro e w_ ⟨rfl, rfl⟩
    have q81 := fun o => cell_of_heap Y81.out o
    have f81 := fun o => froz_of_heap Y81.out o
    have l81 := (Array.getElem?_eq_some_iff.1 Y81.out).1
    go_wp2_with fail
    rw [← hX2]
    clear hX2 q81 f81 l81
    have q8 := fun o => cell_of_heap Y8.out o
    have l8 := (Array.getElem?_eq_some_iff.1 Y8.out).1
    have q6 := fun o => cell_of_heap Y6.out o
    have f6 := fun o => froz_of_heap Y6.out o
    have l6 := (Array.getElem?_eq_some_iff.1 Y6.out).1
    obtain ⟨v1, b1, hf1, hfb1⟩ := from_ex a n c (qU bs 8) hn
    have HF1 := Lib.hid hf1
    have HQ1 := Lib.hid (fun V hV => HU.out 8 8 rfl (by decide) V hV)
    have hqb1 := qU_bound bs 8
    have HFB1 := Lib.hid hfb1
    obtain ⟨Q1, hQ1⟩ : ∃ Q, Q = qU bs 8 := ⟨_, rfl⟩
    rw [← hQ1] at HF1 HQ1 hqb1 HFB1
    have HE1 := Lib.hid hQ1
    clear hf1 hfb1 hQ1
    obtain ⟨v2, b2, hf2, hfb2⟩ := from_ex a n c (qU bs 12) hn
    have HF2 := Lib.hid hf2
    have HQ2 := Lib.hid (fun V hV => HU.out 12 12 rfl (by decide) V hV)
    have hqb2 := qU_bound bs 12
    have HFB2 := Lib.hid hfb2
    obtain ⟨Q2, hQ2⟩ : ∃ Q, Q = qU bs 12 := ⟨_, rfl⟩
    rw [← hQ2] at HF2 HQ2 hqb2 HFB2
    have HE2 := Lib.hid hQ2
    clear hf2 hfb2 hQ2
    obtain ⟨v3, b3, hf3, hfb3⟩ := from_ex a n c (qU bs 16) hn
    have HF3 := Lib.hid hf3
    have HQ3 := Lib.hid (fun V hV => HU.out 16 16 rfl (by decide) V hV)
    have hqb3 := qU_bound bs 16
    have HFB3 := Lib.hid hfb3
    obtain ⟨Q3, hQ3⟩ : ∃ Q, Q = qU bs 16 := ⟨_, rfl⟩
    rw [← hQ3] at HF3 HQ3 hqb3 HFB3
    have HE3 := Lib.hid hQ3
    clear hf3 hfb3 hQ3
    cases b1 with
    | false =>
      have HNO := Lib.hid (show ∀ r1 r2, ¬ GridOk bs 8 4 4 glyphs r1 r2 from fun r1 r2 ho => by
        rcases HFB1.out with ⟨h, _⟩ | ⟨_, hb, _⟩
        · cases h
        · rw [HE1.out] at hb
          have hl := ho.len
          have ha := ho.at1
          rw [HL.out] at hl ha
          exact qU_not hb HL.out (by omega) ha)
      go_wp2_with (first | (go_at_call 70; (with_reducible refine (HQ1.out X HBX.out).mono ?_); rintro e w_ ⟨rfl, rfl⟩) | (go_at_call 70; (with_reducible refine (HQ2.out X HBX.out).mono ?_); rintro e w_ ⟨rfl, rfl⟩) | (go_at_call 70; (with_reducible refine (HQ3.out X HBX.out).mono ?_); rintro e w_ ⟨rfl, rfl⟩) | (go_at_call 69; (with_reducible refine (HF1.out X).mono ?_); rintro e w_ ⟨rfl, rfl⟩) | (go_at_call 69; (with_reducible refine (HF2.out X).mono ?_); rintro e w_ ⟨rfl, rfl⟩) | (go_at_call 69; (with_reducible refine (HF3.out X).mono ?_); rintro e w_ ⟨rfl, rfl⟩))
      have z6 := heap10_at Y6.out (.int .i64 6) (.int .i64 0) (.int .i64 4) (.int .i64 4) (.slice a n c) (.slice none 0 0) (.slice none 0 0) (.slice none 0 0) (.slice none 0 0) (.slice none 0 0)
      have r6 := fun o => cell_of_heap z6 o
      refine bodyPost_ret (v := .tuple #[.agg #[.int .i64 6, .int .i64 0, .int .i64 4, .int .i64 4, .slice a n c, .slice none 0 0, .slice none 0 0, .slice none 0 0, .slice none 0 0, .slice none 0 0], .bool false]) (by simp [results, Try.results54, go_sem, r6]) rfl ?_
      exact ⟨.inr ⟨HNO.out, noT⟩, below10 HBX.out (Nat.le_refl _) _ _ _ _ _ _ _ _ _ _⟩
    | true =>
      cases b2 with
      | false =>
        have HNO := Lib.hid (show ∀ r1 r2, ¬ GridOk bs 8 4 4 glyphs r1 r2 from fun r1 r2 ho => by
          rcases HFB2.out with ⟨h, _⟩ | ⟨_, hb, _⟩
          · cases h
          · rw [HE2.out] at hb
            have hl := ho.len
            have ha := ho.at2
            rw [HL.out] at hl ha
            exact qU_not hb HL.out (by omega) ha)
        go_wp2_with (first | (go_at_call 70; (with_reducible refine (HQ1.out X HBX.out).mono ?_); rintro e w_ ⟨rfl, rfl⟩) | (go_at_call 70; (with_reducible refine (HQ2.out X HBX.out).mono ?_); rintro e w_ ⟨rfl, rfl⟩) | (go_at_call 70; (with_reducible refine (HQ3.out X HBX.out).mono ?_); rintro e w_ ⟨rfl, rfl⟩) | (go_at_call 69; (with_reducible refine (HF1.out X).mono ?_); rintro e w_ ⟨rfl, rfl⟩) | (go_at_call 69; (with_reducible refine (HF2.out X).mono ?_); rintro e w_ ⟨rfl, rfl⟩) | (go_at_call 69; (with_reducible refine (HF3.out X).mono ?_); rintro e w_ ⟨rfl, rfl⟩))
        have z6 := heap10_at Y6.out (.int .i64 6) (.int .i64 0) (.int .i64 4) (.int .i64 4) (.slice a n c) (.slice none 0 0) (.slice none 0 0) (.slice none 0 0) (.slice none 0 0) (.slice none 0 0)
        have r6 := fun o => cell_of_heap z6 o
        refine bodyPost_ret (v := .tuple #[.agg #[.int .i64 6, .int .i64 0, .int .i64 4, .int .i64 4, .slice a n c, .slice none 0 0, .slice none 0 0, .slice none 0 0, .slice none 0 0, .slice none 0 0], .bool false]) (by simp [results, Try.results54, go_sem, r6]) rfl ?_
        exact ⟨.inr ⟨HNO.out, noT⟩, below10 HBX.out (Nat.le_refl _) _ _ _ _ _ _ _ _ _ _⟩
      | true =>
        cases b3 with
        | false =>
          have HNO := Lib.hid (show ∀ r1 r2, ¬ GridOk bs 8 4 4 glyphs r1 r2 from fun r1 r2 ho => by
            rcases HFB3.out with ⟨h, _⟩ | ⟨_, hb, _⟩
            · cases h
            · rw [HE3.out] at hb
              have hl := ho.len
              have ha := ho.at3
              rw [HL.out] at hl ha
              exact qU_not hb HL.out (by omega) ha)
          go_wp2_with (first | (go_at_call 70; (with_reducible refine (HQ1.out X HBX.out).mono ?_); rintro e w_ ⟨rfl, rfl⟩) | (go_at_call 70; (with_reducible refine (HQ2.out X HBX.out).mono ?_); rintro e w_ ⟨rfl, rfl⟩) | (go_at_call 70; (with_reducible refine (HQ3.out X HBX.out).mono ?_); rintro e w_ ⟨rfl, rfl⟩) | (go_at_call 69; (with_reducible refine (HF1.out X).mono ?_); rintro e w_ ⟨rfl, rfl⟩) | (go_at_call 69; (with_reducible refine (HF2.out X).mono ?_); rintro e w_ ⟨rfl, rfl⟩) | (go_at_call 69; (with_reducible refine (HF3.out X).mono ?_); rintro e w_ ⟨rfl, rfl⟩))
          have z6 := heap10_at Y6.out (.int .i64 6) (.int .i64 0) (.int .i64 4) (.int .i64 4) (.slice a n c) (.slice none 0 0) (.slice none 0 0) (.slice none 0 0) (.slice none 0 0) (.slice none 0 0)
          have r6 := fun o => cell_of_heap z6 o
          refine bodyPost_ret (v := .tuple #[.agg #[.int .i64 6, .int .i64 0, .int .i64 4, .int .i64 4, .slice a n c, .slice none 0 0, .slice none 0 0, .slice none 0 0, .slice none 0 0, .slice none 0 0], .bool false]) (by simp [results, Try.results54, go_sem, r6]) rfl ?_
          exact ⟨.inr ⟨HNO.out, noT⟩, below10 HBX.out (Nat.le_refl _) _ _ _ _ _ _ _ _ _ _⟩
        | true =>
          obtain ⟨P1, hP1, hle1, rfl⟩ : ∃ P : Nat, Q1 = (P : Nat) ∧ P ≤ n ∧ v1 = .slice (adv a c P) (n - P) (c - P) := by
            rcases HFB1.out with ⟨_, k, h1, h2, h3⟩ | ⟨h, _⟩
            · exact ⟨k, h1, h2, h3⟩
            · cases h
          obtain ⟨hu1, hN1⟩ := qU_yes (HE1.out.symm.trans hP1)
          have HN1 := Lib.hid hN1
          subst hP1
          clear hN1
          obtain ⟨P2, hP2, hle2, rfl⟩ : ∃ P : Nat, Q2 = (P : Nat) ∧ P ≤ n ∧ v2 = .slice (adv a c P) (n - P) (c - P) := by
            rcases HFB2.out with ⟨_, k, h1, h2, h3⟩ | ⟨h, _⟩
            · exact ⟨k, h1, h2, h3⟩
            · cases h
          obtain ⟨hu2, hN2⟩ := qU_yes (HE2.out.symm.trans hP2)
          have HN2 := Lib.hid hN2
          subst hP2
          clear hN2
          obtain ⟨P3, hP3, hle3, rfl⟩ : ∃ P : Nat, Q3 = (P : Nat) ∧ P ≤ n ∧ v3 = .slice (adv a c P) (n - P) (c - P) := by
            rcases HFB3.out with ⟨_, k, h1, h2, h3⟩ | ⟨h, _⟩
            · exact ⟨k, h1, h2, h3⟩
            · cases h
          obtain ⟨hu3, hN3⟩ := qU_yes (HE3.out.symm.trans hP3)
          have HN3 := Lib.hid hN3
          subst hP3
          clear hN3
          rw [HL.out] at hu1 hu2 hu3
          clear HFB1 HFB2 HFB3 HE1 HE2 HE3
          have HY1 := Lib.hid (fun (rs : List RP) (hok : LkOk (bs.drop P1) glyphs 4 rs) (V : World) (hV : Below w.heap.size w V) => reflkS_yes (adv a c P1) (n - P1) (c - P1) (bs.drop P1) glyphs 4 (glyphs : Nat) 4 rfl rfl (.inr rfl) rs V (by rw [← bytesV_drop]; exact (HH.out.below hV).adv c P1 (by rw [bytesV_length, HL.out]; exact hn)) (by rw [List.length_drop, HL.out]) (by omega) (Nat.le_trans (Nat.sub_le _ _) hc) (by omega) hg1 hg2 hok)
          have HZ1 := Lib.hid (fun (hno : ∀ rs, ¬ LkOk (bs.drop P1) glyphs 4 rs) (V : World) (hV : Below w.heap.size w V) => reflkS_no (adv a c P1) (n - P1) (c - P1) (bs.drop P1) glyphs 4 (glyphs : Nat) 4 rfl rfl (.inr rfl) V (by rw [← bytesV_drop]; exact (HH.out.below hV).adv c P1 (by rw [bytesV_length, HL.out]; exact hn)) (by rw [List.length_drop, HL.out]) (by omega) (Nat.le_trans (Nat.sub_le _ _) hc) (by omega) hg1 hg2 hno)
          have HY2 := Lib.hid (fun (rs : List RP) (hok : LkOk (bs.drop P2) glyphs 4 rs) (V : World) (hV : Below w.heap.size w V) => reflkS_yes (adv a c P2) (n - P2) (c - P2) (bs.drop P2) glyphs 4 (glyphs : Nat) 4 rfl rfl (.inr rfl) rs V (by rw [← bytesV_drop]; exact (HH.out.below hV).adv c P2 (by rw [bytesV_length, HL.out]; exact hn)) (by rw [List.length_drop, HL.out]) (by omega) (Nat.le_trans (Nat.sub_le _ _) hc) (by omega) hg1 hg2 hok)
          have HZ2 := Lib.hid (fun (hno : ∀ rs, ¬ LkOk (bs.drop P2) glyphs 4 rs) (V : World) (hV : Below w.heap.size w V) => reflkS_no (adv a c P2) (n - P2) (c - P2) (bs.drop P2) glyphs 4 (glyphs : Nat) 4 rfl rfl (.inr rfl) V (by rw [← bytesV_drop]; exact (HH.out.below hV).adv c P2 (by rw [bytesV_length, HL.out]; exact hn)) (by rw [List.length_drop, HL.out]) (by omega) (Nat.le_trans (Nat.sub_le _ _) hc) (by omega) hg1 hg2 hno)
          have HX2 := Lib.hid (fun (V : World) (hV : Below w.heap.size w V) => reflk_ex (adv a c P2) (n - P2) (c - P2) (bs.drop P2) glyphs 4 (glyphs : Nat) 4 rfl rfl (.inr rfl) V (by rw [← bytesV_drop]; exact (HH.out.below hV).adv c P2 (by rw [bytesV_length, HL.out]; exact hn)) (by rw [List.length_drop, HL.out]) (by omega) (Nat.le_trans (Nat.sub_le _ _) hc) (by omega) hg1 hg2)
          go_wp2_with (first | (go_at_call 70; (with_reducible refine (HQ1.out X HBX.out).mono ?_); rintro e w_ ⟨rfl, rfl⟩) | (go_at_call 70; (with_reducible refine (HQ2.out X HBX.out).mono ?_); rintro e w_ ⟨rfl, rfl⟩) | (go_at_call 70; (with_reducible refine (HQ3.out X HBX.out).mono ?_); rintro e w_ ⟨rfl, rfl⟩) | (go_at_call 69; (with_reducible refine (HF1.out X).mono ?_); rintro e w_ ⟨rfl, rfl⟩) | (go_at_call 69; (with_reducible refine (HF2.out X).mono ?_); rintro e w_ ⟨rfl, rfl⟩) | (go_at_call 69; (with_reducible refine (HF3.out X).mono ?_); rintro e w_ ⟨rfl, rfl⟩))
          by_cases hk1 : ∃ r1, LkOk (bs.drop P1) glyphs 4 r1
          case neg =>
            have HNO := Lib.hid (show ∀ r1 r2, ¬ GridOk bs 8 4 4 glyphs r1 r2 from fun q1 q2 ho => hk1 ⟨_, by have := ho.lk1; rw [← HN1.out] at this; exact this⟩)
            refine (HZ1.out (fun rs h => hk1 ⟨rs, h⟩) X HBX.out).mono ?_
            rintro e w1 ⟨rfl, hb1⟩
            have y6 := (hb1.block _ l6).trans Y6.out
            have y8 := (hb1.block _ l8).trans Y8.out
            have q8 := fun o => cell_of_heap y8 o
            have f8 := fun o => froz_of_heap y8 o
            have m8 := (Array.getElem?_eq_some_iff.1 y8).1
            have hb1w := HBX.out.trans (hb1.mono HBX.out.size)
            obtain ⟨V, hV⟩ : ∃ V, V = (w1.setCell ⟨w.heap.size + 1, 6, none⟩ (.slice none 0 0)).setCell ⟨w.heap.size + 1, 7, none⟩ (.slice none 0 0) := ⟨_, rfl⟩
            have hV' := hV
            have hbV : Below w.heap.size w V := by rw [hV]; exact (hb1w.setCell (p := ⟨w.heap.size + 1, 6, none⟩) (Nat.le_succ _) _).setCell (p := ⟨w.heap.size + 1, 7, none⟩) (Nat.le_succ _) _
            have z8 : V.heap[w.heap.size + 1]? = some (.cells #[.int .i64 6, .int .i64 0, .int .i64 4, .int .i64 4, .slice a n c, .slice none 0 0, .slice none 0 0, .slice none 0 0, .slice none 0 0, .slice none 0 0] 104 (0, 0)) := by rw [hV]; exact set_heap_at (o := 7) _ (set_heap_at (o := 6) _ y8)
            have z6 : V.heap[w.heap.size]? = some (.cells #[.int .i64 0, .int .i64 0, .int .i64 0, .int .i64 0, .slice none 0 0, .slice none 0 0, .slice none 0 0, .slice none 0 0, .slice none 0 0, .slice none 0 0] 104 (0, 0)) := by rw [hV]; exact (set_heap_other _ (by omega)).trans ((set_heap_other _ (by omega)).trans y6)
            have HBV := Lib.hid hbV
            have Z8 := Lib.hid z8
            have Z6 := Lib.hid z6
            clear hV hbV z8 z6 y6 y8 hb1w
            go_wp2_with fail
            rw [← hV']
            clear hV' q8 f8 m8 l8 l6 q6 f6
            refine (HX2.out V HBV.out).mono ?_
            rintro e w2 ⟨⟨a3, n3, c3, a4, n4, c4, b2, rfl⟩, hb2⟩
            have l8 := (Array.getElem?_eq_some_iff.1 Z8.out).1
            have l6 := (Array.getElem?_eq_some_iff.1 Z6.out).1
            have y6 := (hb2.block _ l6).trans Z6.out
            have y8 := (hb2.block _ l8).trans Z8.out
            have q8 := fun o => cell_of_heap y8 o
            have f8 := fun o => froz_of_heap y8 o
            have m8 := (Array.getElem?_eq_some_iff.1 y8).1
            have hb2w := HBV.out.trans (hb2.mono HBV.out.size)
            obtain ⟨Y, hY⟩ : ∃ Y, Y = ((w2.setCell ⟨w.heap.size + 1, 8, none⟩ (.slice a3 n3 c3)).setCell ⟨w.heap.size + 1, 9, none⟩ (.slice a4 n4 c4)).setCell ⟨w.heap.size + 1, 5, none⟩ (.slice (adv a c P3) (n - P3) (c - P3)) := ⟨_, rfl⟩
            have hY' := hY
            have hbY : Below w.heap.size w Y := by rw [hY]; exact ((hb2w.setCell (p := ⟨w.heap.size + 1, 8, none⟩) (Nat.le_succ _) _).setCell (p := ⟨w.heap.size + 1, 9, none⟩) (Nat.le_succ _) _).setCell (p := ⟨w.heap.size + 1, 5, none⟩) (Nat.le_succ _) _
            have k8 : Y.heap[w.heap.size + 1]? = some (.cells #[.int .i64 6, .int .i64 0, .int .i64 4, .int .i64 4, .slice a n c, .slice (adv a c P3) (n - P3) (c - P3), .slice none 0 0, .slice none 0 0, .slice a3 n3 c3, .slice a4 n4 c4] 104 (0, 0)) := by rw [hY]; exact set_heap_at (o := 5) _ (set_heap_at (o := 9) _ (set_heap_at (o := 8) _ y8))
            have k6 : Y.heap[w.heap.size]? = some (.cells #[.int .i64 0, .int .i64 0, .int .i64 0, .int .i64 0, .slice none 0 0, .slice none 0 0, .slice none 0 0, .slice none 0 0, .slice none 0 0, .slice none 0 0] 104 (0, 0)) := by rw [hY]; exact (set_heap_other _ (by omega)).trans ((set_heap_other _ (by omega)).trans ((set_heap_other _ (by omega)).trans y6))
            have HBY := Lib.hid hbY
            have K8 := Lib.hid k8
            have K6 := Lib.hid k6
            clear hY hbY k8 k6 y6 y8 hb2w
            go_wp2_with fail
            rw [← hY']
            clear hY' q8 f8 m8 l8 l6
            have q8 := fun o => cell_of_heap K8.out o
            have l8 := (Array.getElem?_eq_some_iff.1 K8.out).1
            have f6 := fun o => froz_of_heap K6.out o
            have q6 := fun o => cell_of_heap K6.out o
            have l6 := (Array.getElem?_eq_some_iff.1 K6.out).1
            refine wp_region_tree (.step 0 (.step 1 (.step 2 (.step 3 (.step 4 (.step 5 (.step 6 (.step 7 (.step 8 (.step 9 (.step 10 (.step 11 (.step 13 (.step 14 (.step 18 (.step 19 (.step 12 (.step 15 (.step 16 (.step 17 (.step 20 (.step 21 (.step 22 (.step 23 .nil)))))))))))))))))))))))) (by kernel_rfl) (by kernel_rfl) (by kernel_rfl) (by kernel_rfl) (by intro _ _ d_ _ _ h_; cases d_ <;> first | exact h_ | (dsimp +zetaDelta only at h_ ⊢; exact h_)) (fun w' => ∃ p : Wld Y [w.heap.size], w' = p.val) (wld_start _ _) ?_
            have hG_ := @wldC1 Y w.heap.size
            (refine tree_quiet gtA (by rfl) (by rfl) (fun K_ hK_ => ?_); go_big_quiet_op; refine hK_ _ ?_; clear hK_ K_)
            (refine tree_quiet gtA (by rfl) (by rfl) (fun K_ hK_ => ?_); go_big_quiet_op; refine hK_ _ ?_; clear hK_ K_)
            (refine tree_quiet gtA (by rfl) (by rfl) (fun K_ hK_ => ?_); go_big_quiet_op; refine hK_ _ ?_; clear hK_ K_)
            refine tree_skip gtA (by rfl) ?_; dsimp only [Act.put]; simp only [List.setIfInBounds_toArray, List.set_cons_succ, List.set_cons_zero]
            (refine tree_quiet gtA (by rfl) (by rfl) (fun K_ hK_ => ?_); go_big_quiet_op; refine hK_ _ ?_; clear hK_ K_)
            (refine tree_quiet gtA (by rfl) (by rfl) (fun K_ hK_ => ?_); go_big_quiet_op; refine hK_ _ ?_; clear hK_ K_)
            refine tree_skip gtA (by rfl) ?_; dsimp only [Act.put]; simp only [List.setIfInBounds_toArray, List.set_cons_succ, List.set_cons_zero]
            refine tree_skip gtA (by rfl) ?_; dsimp only [Act.put]; simp only [List.setIfInBounds_toArray, List.set_cons_succ, List.set_cons_zero]
            refine tree_skip gtA (by rfl) ?_; dsimp only [Act.put]; simp only [List.setIfInBounds_toArray, List.set_cons_succ, List.set_cons_zero]
            refine tree_skip gtA (by rfl) ?_; dsimp only [Act.put]; simp only [List.setIfInBounds_toArray, List.set_cons_succ, List.set_cons_zero]
            refine tree_skip gtA (by rfl) ?_; dsimp only [Act.put]; simp only [List.setIfInBounds_toArray, List.set_cons_succ, List.set_cons_zero]
            refine tree_skip gtA (by rfl) ?_; dsimp only [Act.put]; simp only [List.setIfInBounds_toArray, List.set_cons_succ, List.set_cons_zero]
            refine tree_skip gtA (by rfl) ?_; dsimp only [Act.put]; simp only [List.setIfInBounds_toArray, List.set_cons_succ, List.set_cons_zero]
            refine tree_skip gtA (by rfl) ?_; dsimp only [Act.put]; simp only [List.setIfInBounds_toArray, List.set_cons_succ, List.set_cons_zero]
            refine tree_skip gtA (by rfl) ?_; dsimp only [Act.put]; simp only [List.setIfInBounds_toArray, List.set_cons_succ, List.set_cons_zero]
            refine tree_skip gtA (by rfl) ?_; dsimp only [Act.put]; simp only [List.setIfInBounds_toArray, List.set_cons_succ, List.set_cons_zero]
            refine tree_skip gtA (by rfl) ?_; dsimp only [Act.put]; simp only [List.setIfInBounds_toArray, List.set_cons_succ, List.set_cons_zero]
            refine tree_skip gtA (by rfl) ?_; dsimp only [Act.put]; simp only [List.setIfInBounds_toArray, List.set_cons_succ, List.set_cons_zero]
            refine tree_skip gtA (by rfl) ?_; dsimp only [Act.put]; simp only [List.setIfInBounds_toArray, List.set_cons_succ, List.set_cons_zero]
            refine tree_skip gtA (by rfl) ?_; dsimp only [Act.put]; simp only [List.setIfInBounds_toArray, List.set_cons_succ, List.set_cons_zero]
            refine tree_skip gtA (by rfl) ?_; dsimp only [Act.put]; simp only [List.setIfInBounds_toArray, List.set_cons_succ, List.set_cons_zero]
            (refine tree_quiet gtA (by rfl) (by rfl) (fun K_ hK_ => ?_); go_big_quiet_op; refine hK_ _ ?_; clear hK_ K_)
            (refine tree_run gtA (by rfl) (by rfl) (fun K_ hK_ => ?_); have HK_ := Lib.hid hK_; clear hK_; (first | ((refine wpStoreO 104 _ _ rfl w.heap.size _ #[.int .i64 6, .int .i64 0, .int .i64 4, .int .i64 4, .slice a n c, .slice (adv a c P3) (n - P3) (c - P3), .slice none 0 0, .slice none 0 0, .slice a3 n3 c3, .slice a4 n4 c4] rfl rfl K6.out size22 rfl (by simp [Value.oneCell']) ?_; intro wS hS hSo hSz hSb; have hSame : Same Y [w.heap.size] wS := ⟨Nat.le_of_eq hSz.symm, fun k _ hk => hSo k (by simpa using hk)⟩; (try dsimp only [Act.put]))) | (go_wp2_with (fail))); refine HK_.out _ _ (wld_ofA) ?_; clear HK_)
            (refine tree_quiet gtA (by rfl) (by rfl) (fun K_ hK_ => ?_); go_big_quiet_op; refine hK_ _ ?_; clear hK_ K_)
            refine tree_nil ?_
            clear hG_
            go_wp2_with fail
            have r6 := fun o => cell_of_heap hS o
            refine bodyPost_ret (v := .tuple #[.agg #[.int .i64 6, .int .i64 0, .int .i64 4, .int .i64 4, .slice a n c, .slice (adv a c P3) (n - P3) (c - P3), .slice none 0 0, .slice none 0 0, .slice a3 n3 c3, .slice a4 n4 c4], .bool false]) (by simp [results, Try.results54, go_sem, r6]) rfl ?_
            exact ⟨.inr ⟨HNO.out, noT⟩, by first | exact HBY.out.trans hSb | exact (bdrew1 HBY.out).trans hSb⟩
          obtain ⟨r1, hk1⟩ := hk1
          refine (HY1.out r1 hk1 X HBX.out).mono ?_
          rintro e w1 ⟨a1, c1, rfl, hhas1, hb1⟩
          have HAS1 := Lib.hid hhas1
          have HK1 := Lib.hid hk1
          clear hhas1 hk1
          have y6 := (hb1.block _ l6).trans Y6.out
          have y8 := (hb1.block _ l8).trans Y8.out
          have q8 := fun o => cell_of_heap y8 o
          have f8 := fun o => froz_of_heap y8 o
          have m8 := (Array.getElem?_eq_some_iff.1 y8).1
          have hb1w := HBX.out.trans (hb1.mono HBX.out.size)
          obtain ⟨V, hV⟩ : ∃ V, V = (w1.setCell ⟨w.heap.size + 1, 6, none⟩ (.slice (adv a c P1) (n - P1) (c - P1))).setCell ⟨w.heap.size + 1, 7, none⟩ (.slice a1 r1.length c1) := ⟨_, rfl⟩
          have hV' := hV
          have hbV : Below w.heap.size w V := by rw [hV]; exact (hb1w.setCell (p := ⟨w.heap.size + 1, 6, none⟩) (Nat.le_succ _) _).setCell (p := ⟨w.heap.size + 1, 7, none⟩) (Nat.le_succ _) _
          have z8 : V.heap[w.heap.size + 1]? = some (.cells #[.int .i64 6, .int .i64 0, .int .i64 4, .int .i64 4, .slice a n c, .slice none 0 0, .slice (adv a c P1) (n - P1) (c - P1), .slice a1 r1.length c1, .slice none 0 0, .slice none 0 0] 104 (0, 0)) := by rw [hV]; exact set_heap_at (o := 7) _ (set_heap_at (o := 6) _ y8)
          have z6 : V.heap[w.heap.size]? = some (.cells #[.int .i64 0, .int .i64 0, .int .i64 0, .int .i64 0, .slice none 0 0, .slice none 0 0, .slice none 0 0, .slice none 0 0, .slice none 0 0, .slice none 0 0] 104 (0, 0)) := by rw [hV]; exact (set_heap_other _ (by omega)).trans ((set_heap_other _ (by omega)).trans y6)
          have HASV := Lib.hid (show Has V a1 (encRs r1) from by rw [hV']; exact has_far7 (has_far7 HAS1.out (o := 6) y8 (noInt _ _ _ _ _ _ _ _ _ _ _ _ _ _ _ _ _ _ _ _ _ _) _) (o := 7) (set_heap_at (o := 6) _ y8) (noInt _ _ _ _ _ _ _ _ _ _ _ _ _ _ _ _ _ _ _ _ _ _) _)
          have HBV := Lib.hid hbV
          have Z8 := Lib.hid z8
          have Z6 := Lib.hid z6
          clear hV hbV z8 z6 y6 y8 hb1w
          go_wp2_with fail
          rw [← hV']
          clear hV' q8 f8 m8 l8 l6 q6 f6
          by_cases hk2 : ∃ r2, LkOk (bs.drop P2) glyphs 4 r2
          case neg =>
            have HNO := Lib.hid (show ∀ r1 r2, ¬ GridOk bs 8 4 4 glyphs r1 r2 from fun q1 q2 ho => hk2 ⟨_, by have := ho.lk2; rw [← HN2.out] at this; exact this⟩)
            refine (HZ2.out (fun rs h => hk2 ⟨rs, h⟩) V HBV.out).mono ?_
            rintro e w2 ⟨rfl, hb2⟩
            have l8 := (Array.getElem?_eq_some_iff.1 Z8.out).1
            have l6 := (Array.getElem?_eq_some_iff.1 Z6.out).1
            have y6 := (hb2.block _ l6).trans Z6.out
            have y8 := (hb2.block _ l8).trans Z8.out
            have q8 := fun o => cell_of_heap y8 o
            have f8 := fun o => froz_of_heap y8 o
            have m8 := (Array.getElem?_eq_some_iff.1 y8).1
            have hb2w := HBV.out.trans (hb2.mono HBV.out.size)
            obtain ⟨Y, hY⟩ : ∃ Y, Y = ((w2.setCell ⟨w.heap.size + 1, 8, none⟩ (.slice none 0 0)).setCell ⟨w.heap.size + 1, 9, none⟩ (.slice none 0 0)).setCell ⟨w.heap.size + 1, 5, none⟩ (.slice (adv a c P3) (n - P3) (c - P3)) := ⟨_, rfl⟩
            have hY' := hY
            have hbY : Below w.heap.size w Y := by rw [hY]; exact ((hb2w.setCell (p := ⟨w.heap.size + 1, 8, none⟩) (Nat.le_succ _) _).setCell (p := ⟨w.heap.size + 1, 9, none⟩) (Nat.le_succ _) _).setCell (p := ⟨w.heap.size + 1, 5, none⟩) (Nat.le_succ _) _
            have k8 : Y.heap[w.heap.size + 1]? = some (.cells #[.int .i64 6, .int .i64 0, .int .i64 4, .int .i64 4, .slice a n c, .slice (adv a c P3) (n - P3) (c - P3), .slice (adv a c P1) (n - P1) (c - P1), .slice a1 r1.length c1, .slice none 0 0, .slice none 0 0] 104 (0, 0)) := by rw [hY]; exact set_heap_at (o := 5) _ (set_heap_at (o := 9) _ (set_heap_at (o := 8) _ y8))
            have k6 : Y.heap[w.heap.size]? = some (.cells #[.int .i64 0, .int .i64 0, .int .i64 0, .int .i64 0, .slice none 0 0, .slice none 0 0, .slice none 0 0, .slice none 0 0, .slice none 0 0, .slice none 0 0] 104 (0, 0)) := by rw [hY]; exact (set_heap_other _ (by omega)).trans ((set_heap_other _ (by omega)).trans ((set_heap_other _ (by omega)).trans y6))
            have HBY := Lib.hid hbY
            have K8 := Lib.hid k8
            have K6 := Lib.hid k6
            clear hY hbY k8 k6 y6 y8 hb2w
            go_wp2_with fail
            rw [← hY']
            clear hY' q8 f8 m8 l8 l6
            have q8 := fun o => cell_of_heap K8.out o
            have l8 := (Array.getElem?_eq_some_iff.1 K8.out).1
            have f6 := fun o => froz_of_heap K6.out o
            have q6 := fun o => cell_of_heap K6.out o
            have l6 := (Array.getElem?_eq_some_iff.1 K6.out).1
            refine wp_region_tree (.step 0 (.step 1 (.step 2 (.step 3 (.step 4 (.step 5 (.step 6 (.step 7 (.step 8 (.step 9 (.step 10 (.step 11 (.step 13 (.step 14 (.step 18 (.step 19 (.step 12 (.step 15 (.step 16 (.step 17 (.step 20 (.step 21 (.step 22 (.step 23 .nil)))))))))))))))))))))))) (by kernel_rfl) (by kernel_rfl) (by kernel_rfl) (by kernel_rfl) (by intro _ _ d_ _ _ h_; cases d_ <;> first | exact h_ | (dsimp +zetaDelta only at h_ ⊢; exact h_)) (fun w' => ∃ p : Wld Y [w.heap.size], w' = p.val) (wld_start _ _) ?_
            have hG_ := @wldC1 Y w.heap.size
            (refine tree_quiet gtA (by rfl) (by rfl) (fun K_ hK_ => ?_); go_big_quiet_op; refine hK_ _ ?_; clear hK_ K_)
            (refine tree_quiet gtA (by rfl) (by rfl) (fun K_ hK_ => ?_); go_big_quiet_op; refine hK_ _ ?_; clear hK_ K_)
            (refine tree_quiet gtA (by rfl) (by rfl) (fun K_ hK_ => ?_); go_big_quiet_op; refine hK_ _ ?_; clear hK_ K_)
            (refine tree_quiet gtA (by rfl) (by rfl) (fun K_ hK_ => ?_); go_big_quiet_op; refine hK_ _ ?_; clear hK_ K_)
            (refine tree_quiet gtA (by rfl) (by rfl) (fun K_ hK_ => ?_); go_big_quiet_op; refine hK_ _ ?_; clear hK_ K_)
            (refine tree_quiet gtA (by rfl) (by rfl) (fun K_ hK_ => ?_); go_big_quiet_op; refine hK_ _ ?_; clear hK_ K_)
            refine tree_skip gtA (by rfl) ?_; dsimp only [Act.put]; simp only [List.setIfInBounds_toArray, List.set_cons_succ, List.set_cons_zero]
            refine tree_skip gtA (by rfl) ?_; dsimp only [Act.put]; simp only [List.setIfInBounds_toArray, List.set_cons_succ, List.set_cons_zero]
            refine tree_skip gtA (by rfl) ?_; dsimp only [Act.put]; simp only [List.setIfInBounds_toArray, List.set_cons_succ, List.set_cons_zero]
            refine tree_skip gtA (by rfl) ?_; dsimp only [Act.put]; simp only [List.setIfInBounds_toArray, List.set_cons_succ, List.set_cons_zero]
            refine tree_skip gtA (by rfl) ?_; dsimp only [Act.put]; simp only [List.setIfInBounds_toArray, List.set_cons_succ, List.set_cons_zero]
            refine tree_skip gtA (by rfl) ?_; dsimp only [Act.put]; simp only [List.setIfInBounds_toArray, List.set_cons_succ, List.set_cons_zero]
            refine tree_skip gtA (by rfl) ?_; dsimp only [Act.put]; simp only [List.setIfInBounds_toArray, List.set_cons_succ, List.set_cons_zero]
            refine tree_skip gtA (by rfl) ?_; dsimp only [Act.put]; simp only [List.setIfInBounds_toArray, List.set_cons_succ, List.set_cons_zero]
            refine tree_skip gtA (by rfl) ?_; dsimp only [Act.put]; simp only [List.setIfInBounds_toArray, List.set_cons_succ, List.set_cons_zero]
            refine tree_skip gtA (by rfl) ?_; dsimp only [Act.put]; simp only [List.setIfInBounds_toArray, List.set_cons_succ, List.set_cons_zero]
            refine tree_skip gtA (by rfl) ?_; dsimp only [Act.put]; simp only [List.setIfInBounds_toArray, List.set_cons_succ, List.set_cons_zero]
            refine tree_skip gtA (by rfl) ?_; dsimp only [Act.put]; simp only [List.setIfInBounds_toArray, List.set_cons_succ, List.set_cons_zero]
            refine tree_skip gtA (by rfl) ?_; dsimp only [Act.put]; simp only [List.setIfInBounds_toArray, List.set_cons_succ, List.set_cons_zero]
            refine tree_skip gtA (by rfl) ?_; dsimp only [Act.put]; simp only [List.setIfInBounds_toArray, List.set_cons_succ, List.set_cons_zero]
            refine tree_skip gtA (by rfl) ?_; dsimp only [Act.put]; simp only [List.setIfInBounds_toArray, List.set_cons_succ, List.set_cons_zero]
            (refine tree_quiet gtA (by rfl) (by rfl) (fun K_ hK_ => ?_); go_big_quiet_op; refine hK_ _ ?_; clear hK_ K_)
            (refine tree_run gtA (by rfl) (by rfl) (fun K_ hK_ => ?_); have HK_ := Lib.hid hK_; clear hK_; (first | ((refine wpStoreO 104 _ _ rfl w.heap.size _ #[.int .i64 6, .int .i64 0, .int .i64 4, .int .i64 4, .slice a n c, .slice (adv a c P3) (n - P3) (c - P3), .slice (adv a c P1) (n - P1) (c - P1), .slice a1 r1.length c1, .slice none 0 0, .slice none 0 0] rfl rfl K6.out size22 rfl (by simp [Value.oneCell']) ?_; intro wS hS hSo hSz hSb; have hSame : Same Y [w.heap.size] wS := ⟨Nat.le_of_eq hSz.symm, fun k _ hk => hSo k (by simpa using hk)⟩; (try dsimp only [Act.put]))) | (go_wp2_with (fail))); refine HK_.out _ _ (wld_ofA) ?_; clear HK_)
            (refine tree_quiet gtA (by rfl) (by rfl) (fun K_ hK_ => ?_); go_big_quiet_op; refine hK_ _ ?_; clear hK_ K_)
            refine tree_nil ?_
            clear hG_
            go_wp2_with fail
            have r6 := fun o => cell_of_heap hS o
            refine bodyPost_ret (v := .tuple #[.agg #[.int .i64 6, .int .i64 0, .int .i64 4, .int .i64 4, .slice a n c, .slice (adv a c P3) (n - P3) (c - P3), .slice (adv a c P1) (n - P1) (c - P1), .slice a1 r1.length c1, .slice none 0 0, .slice none 0 0], .bool false]) (by simp [results, Try.results54, go_sem, r6]) rfl ?_
            exact ⟨.inr ⟨HNO.out, noT⟩, by first | exact HBY.out.trans hSb | exact (bdrew1 HBY.out).trans hSb⟩
          obtain ⟨r2, hk2⟩ := hk2
          refine (HY2.out r2 hk2 V HBV.out).mono ?_
          rintro e w2 ⟨a2, c2, rfl, hhas2, hb2⟩
          have HAS2 := Lib.hid hhas2
          have HAS1W := Lib.hid (HASV.out.below hb2)
          have HK2 := Lib.hid hk2
          clear hhas2 hk2
          have l8 := (Array.getElem?_eq_some_iff.1 Z8.out).1
          have l6 := (Array.getElem?_eq_some_iff.1 Z6.out).1
          have y6 := (hb2.block _ l6).trans Z6.out
          have y8 := (hb2.block _ l8).trans Z8.out
          have q8 := fun o => cell_of_heap y8 o
          have f8 := fun o => froz_of_heap y8 o
          have m8 := (Array.getElem?_eq_some_iff.1 y8).1
          have hb2w := HBV.out.trans (hb2.mono HBV.out.size)
          obtain ⟨Y, hY⟩ : ∃ Y, Y = ((w2.setCell ⟨w.heap.size + 1, 8, none⟩ (.slice (adv a c P2) (n - P2) (c - P2))).setCell ⟨w.heap.size + 1, 9, none⟩ (.slice a2 r2.length c2)).setCell ⟨w.heap.size + 1, 5, none⟩ (.slice (adv a c P3) (n - P3) (c - P3)) := ⟨_, rfl⟩
          have hY' := hY
          have hbY : Below w.heap.size w Y := by rw [hY]; exact ((hb2w.setCell (p := ⟨w.heap.size + 1, 8, none⟩) (Nat.le_succ _) _).setCell (p := ⟨w.heap.size + 1, 9, none⟩) (Nat.le_succ _) _).setCell (p := ⟨w.heap.size + 1, 5, none⟩) (Nat.le_succ _) _
          have k8 : Y.heap[w.heap.size + 1]? = some (.cells #[.int .i64 6, .int .i64 0, .int .i64 4, .int .i64 4, .slice a n c, .slice (adv a c P3) (n - P3) (c - P3), .slice (adv a c P1) (n - P1) (c - P1), .slice a1 r1.length c1, .slice (adv a c P2) (n - P2) (c - P2), .slice a2 r2.length c2] 104 (0, 0)) := by rw [hY]; exact set_heap_at (o := 5) _ (set_heap_at (o := 9) _ (set_heap_at (o := 8) _ y8))
          have k6 : Y.heap[w.heap.size]? = some (.cells #[.int .i64 0, .int .i64 0, .int .i64 0, .int .i64 0, .slice none 0 0, .slice none 0 0, .slice none 0 0, .slice none 0 0, .slice none 0 0, .slice none 0 0] 104 (0, 0)) := by rw [hY]; exact (set_heap_other _ (by omega)).trans ((set_heap_other _ (by omega)).trans ((set_heap_other _ (by omega)).trans y6))
          have HBY := Lib.hid hbY
          have K8 := Lib.hid k8
          have K6 := Lib.hid k6
          have HASY1 := Lib.hid (show Has Y a1 (encRs r1) from by rw [hY']; exact has_far7 (has_far7 (has_far7 HAS1W.out (o := 8) y8 (noInt _ _ _ _ _ _ _ _ _ _ _ _ _ _ _ _ _ _ _ _ _ _) _) (o := 9) (set_heap_at (o := 8) _ y8) (noInt _ _ _ _ _ _ _ _ _ _ _ _ _ _ _ _ _ _ _ _ _ _) _) (o := 5) (set_heap_at (o := 9) _ (set_heap_at (o := 8) _ y8)) (noInt _ _ _ _ _ _ _ _ _ _ _ _ _ _ _ _ _ _ _ _ _ _) _)
          have HASY2 := Lib.hid (show Has Y a2 (encRs r2) from by rw [hY']; exact has_far7 (has_far7 (has_far7 HAS2.out (o := 8) y8 (noInt _ _ _ _ _ _ _ _ _ _ _ _ _ _ _ _ _ _ _ _ _ _) _) (o := 9) (set_heap_at (o := 8) _ y8) (noInt _ _ _ _ _ _ _ _ _ _ _ _ _ _ _ _ _ _ _ _ _ _) _) (o := 5) (set_heap_at (o := 9) _ (set_heap_at (o := 8) _ y8)) (noInt _ _ _ _ _ _ _ _ _ _ _ _ _ _ _ _ _ _ _ _ _ _) _)
          clear hY hbY k8 k6 y6 y8 hb2w
          go_wp2_with fail
          rw [← hY']
          clear hY' q8 f8 m8 l8 l6
          have q8 := fun o => cell_of_heap K8.out o
          have l8 := (Array.getElem?_eq_some_iff.1 K8.out).1
          have f6 := fun o => froz_of_heap K6.out o
          have q6 := fun o => cell_of_heap K6.out o
          have l6 := (Array.getElem?_eq_some_iff.1 K6.out).1
          have HM1 := Lib.hid (fun (Z : World) (hZ : Below Y.heap.size Y Z) => refmost_any (adv a c P1) (n - P1) (c - P1) (bs.drop P1) glyphs 4 a1 c1 r1 Z (by rw [← bytesV_drop]; exact (HH.out.below (HBY.out.trans (hZ.mono HBY.out.size))).adv c P1 (by rw [bytesV_length, HL.out]; exact hn)) (by rw [List.length_drop, HL.out]) (by omega) (HASY1.out.below hZ) hg2 (.inr rfl) HK1.out)
          have HM2 := Lib.hid (fun (Z : World) (hZ : Below Y.heap.size Y Z) => refmost_any (adv a c P2) (n - P2) (c - P2) (bs.drop P2) glyphs 4 a2 c2 r2 Z (by rw [← bytesV_drop]; exact (HH.out.below (HBY.out.trans (hZ.mono HBY.out.size))).adv c P2 (by rw [bytesV_length, HL.out]; exact hn)) (by rw [List.length_drop, HL.out]) (by omega) (HASY2.out.below hZ) hg2 (.inr rfl) HK2.out)
          have hm1 := mostR_le' (HK1.out.fit hg2 (.inr rfl))
          have hm2 := mostR_le' (HK2.out.fit hg2 (.inr rfl))
          obtain ⟨m1, he1⟩ : ∃ m, m = mostR (bs.drop P1) r1 := ⟨_, rfl⟩
          obtain ⟨m2, he2⟩ : ∃ m, m = mostR (bs.drop P2) r2 := ⟨_, rfl⟩
          rw [← he1] at HM1 hm1
          rw [← he2] at HM2 hm2
          have HE1 := Lib.hid he1
          have HE2 := Lib.hid he2
          clear he1 he2
          have w1_ : IntKind.i64.wrap ((m1 : Int) + (m2 : Int)) = (m1 : Int) + (m2 : Int) := IntWalk.i64_in _ (by omega)
          have w2_ : IntKind.i64.wrap (4 * ((m1 : Int) + (m2 : Int))) = 4 * ((m1 : Int) + (m2 : Int)) := IntWalk.i64_in _ (by omega)
          by_cases hfar : 4 * (m1 + m2) + 4 ≤ n - P3
          · have hd : decide ((0 : Int) ≤ 4 * ((m1 : Int) + (m2 : Int)) ∧ (0 : Int) ≤ 4 ∧ 4 * ((m1 : Int) + (m2 : Int)) ≤ ((n - P3 : Nat) : Int) ∧ 4 ≤ ((n - P3 : Nat) : Int) - 4 * ((m1 : Int) + (m2 : Int))) = true := by simp only [decide_eq_true_eq, decide_eq_false_iff_not]; omega
            have HIN := Lib.hid (fun (z : Int) (hz : z = 4 * ((m1 : Int) + (m2 : Int))) (Z : World) => show Calls Try.prog 73 #[.int .i64 ((n - P3 : Nat) : Int), .int .i64 z, .int .i64 4] Z fun e w' => e = .returned (.bool true) ∧ Z = w' from by have hin := in_any (n - P3) (4 * ((m1 : Int) + (m2 : Int))) 4 Z (by omega) (by omega) (by decide); rw [hd] at hin; subst hz; exact hin)
            clear hd
            refine wp_region_tree (.step 0 (.step 1 (.step 2 (.step 3 (.step 4 (.step 5 (.step 6 (.step 7 (.step 8 (.step 9 (.step 10 (.step 11 (.step 13 (.step 14 (.step 18 (.step 19 (.step 12 (.step 15 (.step 16 (.step 17 (.step 20 (.step 21 (.step 22 (.step 23 .nil)))))))))))))))))))))))) (by kernel_rfl) (by kernel_rfl) (by kernel_rfl) (by kernel_rfl) (by intro _ _ d_ _ _ h_; cases d_ <;> first | exact h_ | (dsimp +zetaDelta only at h_ ⊢; exact h_)) (fun w' => ∃ p : Wld Y [w.heap.size], w' = p.val) (wld_start _ _) ?_
            have hG_ := @wldC1 Y w.heap.size
            (refine tree_quiet gtA (by rfl) (by rfl) (fun K_ hK_ => ?_); go_big_quiet_op; refine hK_ _ ?_; clear hK_ K_)
            (refine tree_quiet gtA (by rfl) (by rfl) (fun K_ hK_ => ?_); go_big_quiet_op; refine hK_ _ ?_; clear hK_ K_)
            (refine tree_quiet gtA (by rfl) (by rfl) (fun K_ hK_ => ?_); go_big_quiet_op; refine hK_ _ ?_; clear hK_ K_)
            (refine tree_quiet gtA (by rfl) (by rfl) (fun K_ hK_ => ?_); go_big_quiet_op; refine hK_ _ ?_; clear hK_ K_)
            (refine tree_quiet gtA (by rfl) (by rfl) (fun K_ hK_ => ?_); go_big_quiet_op; refine hK_ _ ?_; clear hK_ K_)
            (refine tree_quiet gtA (by rfl) (by rfl) (fun K_ hK_ => ?_); go_big_quiet_op; refine hK_ _ ?_; clear hK_ K_)
            (refine tree_quiet gtA (by rfl) (by rfl) (fun K_ hK_ => ?_); go_big_quiet_op; refine hK_ _ ?_; clear hK_ K_)
            (refine tree_quiet gtA (by rfl) (by rfl) (fun K_ hK_ => ?_); go_big_quiet_op; refine hK_ _ ?_; clear hK_ K_)
            (refine tree_quiet gtA (by rfl) (by rfl) (fun K_ hK_ => ?_); go_big_quiet_op; refine hK_ _ ?_; clear hK_ K_)
            (refine tree_quiet gtA (by rfl) (by rfl) (fun K_ hK_ => ?_); go_big_quiet_op; refine hK_ _ ?_; clear hK_ K_)
            (refine tree_quiet gtA (by rfl) (by rfl) (fun K_ hK_ => ?_); go_big_quiet_op; refine hK_ _ ?_; clear hK_ K_)
            (refine tree_quiet gtA (by rfl) (by rfl) (fun K_ hK_ => ?_); go_big_quiet_op; refine hK_ _ ?_; clear hK_ K_)
            (refine tree_quiet gtA (by rfl) (by rfl) (fun K_ hK_ => ?_); go_big_quiet_op; refine hK_ _ ?_; clear hK_ K_)
            (refine tree_quiet gtA (by rfl) (by rfl) (fun K_ hK_ => ?_); go_big_quiet_op; refine hK_ _ ?_; clear hK_ K_)
            (refine tree_quiet gtA (by rfl) (by rfl) (fun K_ hK_ => ?_); go_big_quiet_op; refine hK_ _ ?_; clear hK_ K_)
            (refine tree_quiet gtA (by rfl) (by rfl) (fun K_ hK_ => ?_); go_big_quiet_op; refine hK_ _ ?_; clear hK_ K_)
            (refine tree_run gtA (by rfl) (by rfl) (fun K_ hK_ => ?_); have HK_ := Lib.hid hK_; clear hK_; (first | ((refine wpStoreO 104 _ _ rfl w.heap.size _ #[.int .i64 6, .int .i64 0, .int .i64 4, .int .i64 4, .slice a n c, .slice (adv a c P3) (n - P3) (c - P3), .slice (adv a c P1) (n - P1) (c - P1), .slice a1 r1.length c1, .slice (adv a c P2) (n - P2) (c - P2), .slice a2 r2.length c2] rfl rfl ((show Below Y.heap.size Y _ from by exact blw).block _ l6 |>.trans K6.out) size22 rfl (by simp [Value.oneCell']) ?_; intro wS hS hSo hSz hSb; have hSame : Same Y [w.heap.size] wS := ⟨Nat.le_trans (show Below Y.heap.size Y w5 from by exact blw).size (Nat.le_of_eq hSz.symm), fun k hk hx => (hSo k (by simpa using hx)).trans ((show Below Y.heap.size Y w5 from by exact blw).block k hk)⟩; (try dsimp only [Act.put]))) | (go_wp2_with (first | (go_at_call 99; (with_reducible refine (HM1.out _ (by exact blw)).mono ?_); rintro e w4 ⟨rfl, hb4⟩; have h4c := bc hb4; have h4f := bf hb4; have h4z := hb4.size; try simp only [World.size_alloc, World.size_drew] at h4z) | (go_at_call 99; (with_reducible refine (HM2.out _ (by exact blw)).mono ?_); rintro e w5 ⟨rfl, hb5⟩; have h5c := bc hb5; have h5f := bf hb5; have h5z := hb5.size; try simp only [World.size_alloc, World.size_drew] at h5z) | (go_at_call 73; (with_reducible refine (HIN.out _ (by first | rfl | omega) _).mono ?_); rintro e w_ ⟨rfl, rfl⟩)))); refine HK_.out _ _ (wld_ofA) ?_; clear HK_)
            (refine tree_run gtA (by rfl) (by rfl) (fun K_ hK_ => ?_); have HK_ := Lib.hid hK_; clear hK_; (first | ((refine wpStoreO 104 _ _ rfl w.heap.size _ #[.int .i64 6, .int .i64 0, .int .i64 4, .int .i64 4, .slice a n c, .slice (adv a c P3) (n - P3) (c - P3), .slice (adv a c P1) (n - P1) (c - P1), .slice a1 r1.length c1, .slice (adv a c P2) (n - P2) (c - P2), .slice a2 r2.length c2] rfl rfl ((show Below Y.heap.size Y _ from by exact blw).block _ l6 |>.trans K6.out) size22 rfl (by simp [Value.oneCell']) ?_; intro wS hS hSo hSz hSb; have hSame : Same Y [w.heap.size] wS := ⟨Nat.le_trans (show Below Y.heap.size Y w5 from by exact blw).size (Nat.le_of_eq hSz.symm), fun k hk hx => (hSo k (by simpa using hx)).trans ((show Below Y.heap.size Y w5 from by exact blw).block k hk)⟩; (try dsimp only [Act.put]))) | (go_wp2_with (first | (go_at_call 99; (with_reducible refine (HM1.out _ (by exact blw)).mono ?_); rintro e w4 ⟨rfl, hb4⟩; have h4c := bc hb4; have h4f := bf hb4; have h4z := hb4.size; try simp only [World.size_alloc, World.size_drew] at h4z) | (go_at_call 99; (with_reducible refine (HM2.out _ (by exact blw)).mono ?_); rintro e w5 ⟨rfl, hb5⟩; have h5c := bc hb5; have h5f := bf hb5; have h5z := hb5.size; try simp only [World.size_alloc, World.size_drew] at h5z) | (go_at_call 73; (with_reducible refine (HIN.out _ (by first | rfl | omega) _).mono ?_); rintro e w_ ⟨rfl, rfl⟩)))); refine HK_.out _ _ (wld_ofA) ?_; clear HK_)
            (refine tree_quiet gtA (by rfl) (by rfl) (fun K_ hK_ => ?_); go_big_quiet_op; refine hK_ _ ?_; clear hK_ K_)
            (refine tree_quiet gtA (by rfl) (by rfl) (fun K_ hK_ => ?_); go_big_quiet_op; refine hK_ _ ?_; clear hK_ K_)
            (refine tree_run gtA (by rfl) (by rfl) (fun K_ hK_ => ?_); have HK_ := Lib.hid hK_; clear hK_; (first | ((refine wpStoreO 104 _ _ rfl w.heap.size _ #[.int .i64 6, .int .i64 0, .int .i64 4, .int .i64 4, .slice a n c, .slice (adv a c P3) (n - P3) (c - P3), .slice (adv a c P1) (n - P1) (c - P1), .slice a1 r1.length c1, .slice (adv a c P2) (n - P2) (c - P2), .slice a2 r2.length c2] rfl rfl ((show Below Y.heap.size Y _ from by exact blw).block _ l6 |>.trans K6.out) size22 rfl (by simp [Value.oneCell']) ?_; intro wS hS hSo hSz hSb; have hSame : Same Y [w.heap.size] wS := ⟨Nat.le_trans (show Below Y.heap.size Y w5 from by exact blw).size (Nat.le_of_eq hSz.symm), fun k hk hx => (hSo k (by simpa using hx)).trans ((show Below Y.heap.size Y w5 from by exact blw).block k hk)⟩; (try dsimp only [Act.put]))) | (go_wp2_with (first | (go_at_call 99; (with_reducible refine (HM1.out _ (by exact blw)).mono ?_); rintro e w4 ⟨rfl, hb4⟩; have h4c := bc hb4; have h4f := bf hb4; have h4z := hb4.size; try simp only [World.size_alloc, World.size_drew] at h4z) | (go_at_call 99; (with_reducible refine (HM2.out _ (by exact blw)).mono ?_); rintro e w5 ⟨rfl, hb5⟩; have h5c := bc hb5; have h5f := bf hb5; have h5z := hb5.size; try simp only [World.size_alloc, World.size_drew] at h5z) | (go_at_call 73; (with_reducible refine (HIN.out _ (by first | rfl | omega) _).mono ?_); rintro e w_ ⟨rfl, rfl⟩)))); refine HK_.out _ _ (wld_ofA) ?_; clear HK_)
            (refine tree_quiet gtA (by rfl) (by rfl) (fun K_ hK_ => ?_); go_big_quiet_op; refine hK_ _ ?_; clear hK_ K_)
            (refine tree_run gtA (by rfl) (by rfl) (fun K_ hK_ => ?_); have HK_ := Lib.hid hK_; clear hK_; (first | ((refine wpStoreO 104 _ _ rfl w.heap.size _ #[.int .i64 6, .int .i64 0, .int .i64 4, .int .i64 4, .slice a n c, .slice (adv a c P3) (n - P3) (c - P3), .slice (adv a c P1) (n - P1) (c - P1), .slice a1 r1.length c1, .slice (adv a c P2) (n - P2) (c - P2), .slice a2 r2.length c2] rfl rfl ((show Below Y.heap.size Y _ from by exact blw).block _ l6 |>.trans K6.out) size22 rfl (by simp [Value.oneCell']) ?_; intro wS hS hSo hSz hSb; have hSame : Same Y [w.heap.size] wS := ⟨Nat.le_trans (show Below Y.heap.size Y w5 from by exact blw).size (Nat.le_of_eq hSz.symm), fun k hk hx => (hSo k (by simpa using hx)).trans ((show Below Y.heap.size Y w5 from by exact blw).block k hk)⟩; (try dsimp only [Act.put]))) | (go_wp2_with (first | (go_at_call 99; (with_reducible refine (HM1.out _ (by exact blw)).mono ?_); rintro e w4 ⟨rfl, hb4⟩; have h4c := bc hb4; have h4f := bf hb4; have h4z := hb4.size; try simp only [World.size_alloc, World.size_drew] at h4z) | (go_at_call 99; (with_reducible refine (HM2.out _ (by exact blw)).mono ?_); rintro e w5 ⟨rfl, hb5⟩; have h5c := bc hb5; have h5f := bf hb5; have h5z := hb5.size; try simp only [World.size_alloc, World.size_drew] at h5z) | (go_at_call 73; (with_reducible refine (HIN.out _ (by first | rfl | omega) _).mono ?_); rintro e w_ ⟨rfl, rfl⟩)))); refine HK_.out _ _ (wld_ofA) ?_; clear HK_)
            (refine tree_quiet gtA (by rfl) (by rfl) (fun K_ hK_ => ?_); go_big_quiet_op; refine hK_ _ ?_; clear hK_ K_)
            refine tree_nil ?_
            clear hG_
            have hbl : Below Y.heap.size Y w5 := by exact blw
            have HBL := Lib.hid hbl
            clear hbl
            go_wp2_with fail
            have r6 := fun o => cell_of_heap hS o
            refine bodyPost_ret (v := .tuple #[.agg #[.int .i64 6, .int .i64 0, .int .i64 4, .int .i64 4, .slice a n c, .slice (adv a c P3) (n - P3) (c - P3), .slice (adv a c P1) (n - P1) (c - P1), .slice a1 r1.length c1, .slice (adv a c P2) (n - P2) (c - P2), .slice a2 r2.length c2], .bool true]) (by simp [results, Try.results54, go_sem, r6]) rfl ?_
            exact ⟨.inl ⟨r1, r2, a1, c1, a2, c2, ⟨by rw [HL.out]; omega, by rw [HL.out, ← HN1.out]; exact hle1, by rw [HL.out, ← HN2.out]; exact hle2, by rw [HL.out, ← HN3.out]; exact hle3, by rw [← HN1.out]; exact HK1.out, by rw [← HN2.out]; exact HK2.out, by rw [HL.out, ← HN1.out, ← HN2.out, ← HN3.out, ← HE1.out, ← HE2.out]; exact hfar⟩, by rw [← HN1.out, ← HN2.out, ← HN3.out]; rfl, (has_farS (HASY1.out.below HBL.out) ((HBL.out.block _ l6).trans K6.out) (noInt _ _ _ _ _ _ _ _ _ _ _ _ _ _ _ _ _ _ _ _ _ _) hSo), (has_farS (HASY2.out.below HBL.out) ((HBL.out.block _ l6).trans K6.out) (noInt _ _ _ _ _ _ _ _ _ _ _ _ _ _ _ _ _ _ _ _ _ _) hSo)⟩, (HBY.out.trans (HBL.out.mono HBY.out.size)).trans hSb⟩
          · have hd : decide ((0 : Int) ≤ 4 * ((m1 : Int) + (m2 : Int)) ∧ (0 : Int) ≤ 4 ∧ 4 * ((m1 : Int) + (m2 : Int)) ≤ ((n - P3 : Nat) : Int) ∧ 4 ≤ ((n - P3 : Nat) : Int) - 4 * ((m1 : Int) + (m2 : Int))) = false := by simp only [decide_eq_true_eq, decide_eq_false_iff_not]; omega
            have HIN := Lib.hid (fun (z : Int) (hz : z = 4 * ((m1 : Int) + (m2 : Int))) (Z : World) => show Calls Try.prog 73 #[.int .i64 ((n - P3 : Nat) : Int), .int .i64 z, .int .i64 4] Z fun e w' => e = .returned (.bool false) ∧ Z = w' from by have hin := in_any (n - P3) (4 * ((m1 : Int) + (m2 : Int))) 4 Z (by omega) (by omega) (by decide); rw [hd] at hin; subst hz; exact hin)
            clear hd
            refine wp_region_tree (.step 0 (.step 1 (.step 2 (.step 3 (.step 4 (.step 5 (.step 6 (.step 7 (.step 8 (.step 9 (.step 10 (.step 11 (.step 13 (.step 14 (.step 18 (.step 19 (.step 12 (.step 15 (.step 16 (.step 17 (.step 20 (.step 21 (.step 22 (.step 23 .nil)))))))))))))))))))))))) (by kernel_rfl) (by kernel_rfl) (by kernel_rfl) (by kernel_rfl) (by intro _ _ d_ _ _ h_; cases d_ <;> first | exact h_ | (dsimp +zetaDelta only at h_ ⊢; exact h_)) (fun w' => ∃ p : Wld Y [w.heap.size], w' = p.val) (wld_start _ _) ?_
            have hG_ := @wldC1 Y w.heap.size
            (refine tree_quiet gtA (by rfl) (by rfl) (fun K_ hK_ => ?_); go_big_quiet_op; refine hK_ _ ?_; clear hK_ K_)
            (refine tree_quiet gtA (by rfl) (by rfl) (fun K_ hK_ => ?_); go_big_quiet_op; refine hK_ _ ?_; clear hK_ K_)
            (refine tree_quiet gtA (by rfl) (by rfl) (fun K_ hK_ => ?_); go_big_quiet_op; refine hK_ _ ?_; clear hK_ K_)
            (refine tree_quiet gtA (by rfl) (by rfl) (fun K_ hK_ => ?_); go_big_quiet_op; refine hK_ _ ?_; clear hK_ K_)
            (refine tree_quiet gtA (by rfl) (by rfl) (fun K_ hK_ => ?_); go_big_quiet_op; refine hK_ _ ?_; clear hK_ K_)
            (refine tree_quiet gtA (by rfl) (by rfl) (fun K_ hK_ => ?_); go_big_quiet_op; refine hK_ _ ?_; clear hK_ K_)
            (refine tree_quiet gtA (by rfl) (by rfl) (fun K_ hK_ => ?_); go_big_quiet_op; refine hK_ _ ?_; clear hK_ K_)
            (refine tree_quiet gtA (by rfl) (by rfl) (fun K_ hK_ => ?_); go_big_quiet_op; refine hK_ _ ?_; clear hK_ K_)
            (refine tree_quiet gtA (by rfl) (by rfl) (fun K_ hK_ => ?_); go_big_quiet_op; refine hK_ _ ?_; clear hK_ K_)
            (refine tree_quiet gtA (by rfl) (by rfl) (fun K_ hK_ => ?_); go_big_quiet_op; refine hK_ _ ?_; clear hK_ K_)
            (refine tree_quiet gtA (by rfl) (by rfl) (fun K_ hK_ => ?_); go_big_quiet_op; refine hK_ _ ?_; clear hK_ K_)
            (refine tree_quiet gtA (by rfl) (by rfl) (fun K_ hK_ => ?_); go_big_quiet_op; refine hK_ _ ?_; clear hK_ K_)
            (refine tree_quiet gtA (by rfl) (by rfl) (fun K_ hK_ => ?_); go_big_quiet_op; refine hK_ _ ?_; clear hK_ K_)
            (refine tree_quiet gtA (by rfl) (by rfl) (fun K_ hK_ => ?_); go_big_quiet_op; refine hK_ _ ?_; clear hK_ K_)
            (refine tree_quiet gtA (by rfl) (by rfl) (fun K_ hK_ => ?_); go_big_quiet_op; refine hK_ _ ?_; clear hK_ K_)
            (refine tree_quiet gtA (by rfl) (by rfl) (fun K_ hK_ => ?_); go_big_quiet_op; refine hK_ _ ?_; clear hK_ K_)
            (refine tree_run gtA (by rfl) (by rfl) (fun K_ hK_ => ?_); have HK_ := Lib.hid hK_; clear hK_; (first | ((refine wpStoreO 104 _ _ rfl w.heap.size _ #[.int .i64 6, .int .i64 0, .int .i64 4, .int .i64 4, .slice a n c, .slice (adv a c P3) (n - P3) (c - P3), .slice (adv a c P1) (n - P1) (c - P1), .slice a1 r1.length c1, .slice (adv a c P2) (n - P2) (c - P2), .slice a2 r2.length c2] rfl rfl ((show Below Y.heap.size Y _ from by exact blw).block _ l6 |>.trans K6.out) size22 rfl (by simp [Value.oneCell']) ?_; intro wS hS hSo hSz hSb; have hSame : Same Y [w.heap.size] wS := ⟨Nat.le_trans (show Below Y.heap.size Y w5 from by exact blw).size (Nat.le_of_eq hSz.symm), fun k hk hx => (hSo k (by simpa using hx)).trans ((show Below Y.heap.size Y w5 from by exact blw).block k hk)⟩; (try dsimp only [Act.put]))) | (go_wp2_with (first | (go_at_call 99; (with_reducible refine (HM1.out _ (by exact blw)).mono ?_); rintro e w4 ⟨rfl, hb4⟩; have h4c := bc hb4; have h4f := bf hb4; have h4z := hb4.size; try simp only [World.size_alloc, World.size_drew] at h4z) | (go_at_call 99; (with_reducible refine (HM2.out _ (by exact blw)).mono ?_); rintro e w5 ⟨rfl, hb5⟩; have h5c := bc hb5; have h5f := bf hb5; have h5z := hb5.size; try simp only [World.size_alloc, World.size_drew] at h5z) | (go_at_call 73; (with_reducible refine (HIN.out _ (by first | rfl | omega) _).mono ?_); rintro e w_ ⟨rfl, rfl⟩)))); refine HK_.out _ _ (wld_ofA) ?_; clear HK_)
            (refine tree_run gtA (by rfl) (by rfl) (fun K_ hK_ => ?_); have HK_ := Lib.hid hK_; clear hK_; (first | ((refine wpStoreO 104 _ _ rfl w.heap.size _ #[.int .i64 6, .int .i64 0, .int .i64 4, .int .i64 4, .slice a n c, .slice (adv a c P3) (n - P3) (c - P3), .slice (adv a c P1) (n - P1) (c - P1), .slice a1 r1.length c1, .slice (adv a c P2) (n - P2) (c - P2), .slice a2 r2.length c2] rfl rfl ((show Below Y.heap.size Y _ from by exact blw).block _ l6 |>.trans K6.out) size22 rfl (by simp [Value.oneCell']) ?_; intro wS hS hSo hSz hSb; have hSame : Same Y [w.heap.size] wS := ⟨Nat.le_trans (show Below Y.heap.size Y w5 from by exact blw).size (Nat.le_of_eq hSz.symm), fun k hk hx => (hSo k (by simpa using hx)).trans ((show Below Y.heap.size Y w5 from by exact blw).block k hk)⟩; (try dsimp only [Act.put]))) | (go_wp2_with (first | (go_at_call 99; (with_reducible refine (HM1.out _ (by exact blw)).mono ?_); rintro e w4 ⟨rfl, hb4⟩; have h4c := bc hb4; have h4f := bf hb4; have h4z := hb4.size; try simp only [World.size_alloc, World.size_drew] at h4z) | (go_at_call 99; (with_reducible refine (HM2.out _ (by exact blw)).mono ?_); rintro e w5 ⟨rfl, hb5⟩; have h5c := bc hb5; have h5f := bf hb5; have h5z := hb5.size; try simp only [World.size_alloc, World.size_drew] at h5z) | (go_at_call 73; (with_reducible refine (HIN.out _ (by first | rfl | omega) _).mono ?_); rintro e w_ ⟨rfl, rfl⟩)))); refine HK_.out _ _ (wld_ofA) ?_; clear HK_)
            (refine tree_quiet gtA (by rfl) (by rfl) (fun K_ hK_ => ?_); go_big_quiet_op; refine hK_ _ ?_; clear hK_ K_)
            (refine tree_quiet gtA (by rfl) (by rfl) (fun K_ hK_ => ?_); go_big_quiet_op; refine hK_ _ ?_; clear hK_ K_)
            (refine tree_run gtA (by rfl) (by rfl) (fun K_ hK_ => ?_); have HK_ := Lib.hid hK_; clear hK_; (first | ((refine wpStoreO 104 _ _ rfl w.heap.size _ #[.int .i64 6, .int .i64 0, .int .i64 4, .int .i64 4, .slice a n c, .slice (adv a c P3) (n - P3) (c - P3), .slice (adv a c P1) (n - P1) (c - P1), .slice a1 r1.length c1, .slice (adv a c P2) (n - P2) (c - P2), .slice a2 r2.length c2] rfl rfl ((show Below Y.heap.size Y _ from by exact blw).block _ l6 |>.trans K6.out) size22 rfl (by simp [Value.oneCell']) ?_; intro wS hS hSo hSz hSb; have hSame : Same Y [w.heap.size] wS := ⟨Nat.le_trans (show Below Y.heap.size Y w5 from by exact blw).size (Nat.le_of_eq hSz.symm), fun k hk hx => (hSo k (by simpa using hx)).trans ((show Below Y.heap.size Y w5 from by exact blw).block k hk)⟩; (try dsimp only [Act.put]))) | (go_wp2_with (first | (go_at_call 99; (with_reducible refine (HM1.out _ (by exact blw)).mono ?_); rintro e w4 ⟨rfl, hb4⟩; have h4c := bc hb4; have h4f := bf hb4; have h4z := hb4.size; try simp only [World.size_alloc, World.size_drew] at h4z) | (go_at_call 99; (with_reducible refine (HM2.out _ (by exact blw)).mono ?_); rintro e w5 ⟨rfl, hb5⟩; have h5c := bc hb5; have h5f := bf hb5; have h5z := hb5.size; try simp only [World.size_alloc, World.size_drew] at h5z) | (go_at_call 73; (with_reducible refine (HIN.out _ (by first | rfl | omega) _).mono ?_); rintro e w_ ⟨rfl, rfl⟩)))); refine HK_.out _ _ (wld_ofA) ?_; clear HK_)
            (refine tree_quiet gtA (by rfl) (by rfl) (fun K_ hK_ => ?_); go_big_quiet_op; refine hK_ _ ?_; clear hK_ K_)
            (refine tree_run gtA (by rfl) (by rfl) (fun K_ hK_ => ?_); have HK_ := Lib.hid hK_; clear hK_; (first | ((refine wpStoreO 104 _ _ rfl w.heap.size _ #[.int .i64 6, .int .i64 0, .int .i64 4, .int .i64 4, .slice a n c, .slice (adv a c P3) (n - P3) (c - P3), .slice (adv a c P1) (n - P1) (c - P1), .slice a1 r1.length c1, .slice (adv a c P2) (n - P2) (c - P2), .slice a2 r2.length c2] rfl rfl ((show Below Y.heap.size Y _ from by exact blw).block _ l6 |>.trans K6.out) size22 rfl (by simp [Value.oneCell']) ?_; intro wS hS hSo hSz hSb; have hSame : Same Y [w.heap.size] wS := ⟨Nat.le_trans (show Below Y.heap.size Y w5 from by exact blw).size (Nat.le_of_eq hSz.symm), fun k hk hx => (hSo k (by simpa using hx)).trans ((show Below Y.heap.size Y w5 from by exact blw).block k hk)⟩; (try dsimp only [Act.put]))) | (go_wp2_with (first | (go_at_call 99; (with_reducible refine (HM1.out _ (by exact blw)).mono ?_); rintro e w4 ⟨rfl, hb4⟩; have h4c := bc hb4; have h4f := bf hb4; have h4z := hb4.size; try simp only [World.size_alloc, World.size_drew] at h4z) | (go_at_call 99; (with_reducible refine (HM2.out _ (by exact blw)).mono ?_); rintro e w5 ⟨rfl, hb5⟩; have h5c := bc hb5; have h5f := bf hb5; have h5z := hb5.size; try simp only [World.size_alloc, World.size_drew] at h5z) | (go_at_call 73; (with_reducible refine (HIN.out _ (by first | rfl | omega) _).mono ?_); rintro e w_ ⟨rfl, rfl⟩)))); refine HK_.out _ _ (wld_ofA) ?_; clear HK_)
            (refine tree_quiet gtA (by rfl) (by rfl) (fun K_ hK_ => ?_); go_big_quiet_op; refine hK_ _ ?_; clear hK_ K_)
            refine tree_nil ?_
            clear hG_
            have hbl : Below Y.heap.size Y w5 := by exact blw
            have HBL := Lib.hid hbl
            clear hbl
            go_wp2_with fail
            have r6 := fun o => cell_of_heap hS o
            refine bodyPost_ret (v := .tuple #[.agg #[.int .i64 6, .int .i64 0, .int .i64 4, .int .i64 4, .slice a n c, .slice (adv a c P3) (n - P3) (c - P3), .slice (adv a c P1) (n - P1) (c - P1), .slice a1 r1.length c1, .slice (adv a c P2) (n - P2) (c - P2), .slice a2 r2.length c2], .bool false]) (by simp [results, Try.results54, go_sem, r6]) rfl ?_
            exact ⟨.inr ⟨fun q1 q2 ho => by
              have e1 := ho.lk1
              have e2 := ho.lk2
              have e3 := ho.far
              rw [← HN1.out] at e1 e3
              rw [← HN2.out] at e2 e3
              obtain rfl := e1.det HK1.out
              obtain rfl := e2.det HK2.out
              rw [← HE1.out, ← HE2.out, ← HN3.out, HL.out] at e3
              exact hfar e3, noT⟩, (HBY.out.trans (HBL.out.mono HBY.out.size)).trans hSb⟩
  · rw [show sizI bs = 2 by rw [HSZ.out, if_neg hodd]]
    rw [show F % 2 = 0 by omega] at etm
    clear hodd HSZ
    obtain ⟨X, hX2⟩ : ∃ X, X = X1 := ⟨_, rfl⟩
    have HBX := Lib.hid (show Below w.heap.size w X by rw [hX2]; exact HBX1.out)
    have Y6 := Lib.hid (show X.heap[w.heap.size]? = some (.cells #[.int .i64 0, .int .i64 0, .int .i64 0, .int .i64 0, .slice none 0 0, .slice none 0 0, .slice none 0 0, .slice none 0 0, .slice none 0 0, .slice none 0 0] 104 (0, 0)) by rw [hX2]; exact Y61.out)
    have Y8 := Lib.hid (show X.heap[w.heap.size + 1]? = some (.cells #[.int .i64 6, .int .i64 0, .int .i64 2, .int .i64 2, .slice a n c, .slice none 0 0, .slice none 0 0, .slice none 0 0, .slice none 0 0, .slice none 0 0] 104 (0, 0)) by rw [hX2]; exact Y81.out)
    go_enter Try.func54, Try.ntmps54
    go_wp2_with fail
    rw [← hX]
    clear hX
    refine (HU0.out X1 HBX1.out).mono ?_
    rintro e w_ ⟨rfl, rfl⟩
    go_wp2_with fail
    rw [← hX2]
    clear hX2
    have q8 := fun o => cell_of_heap Y8.out o
    have l8 := (Array.getElem?_eq_some_iff.1 Y8.out).1
    have q6 := fun o => cell_of_heap Y6.out o
    have f6 := fun o => froz_of_heap Y6.out o
    have l6 := (Array.getElem?_eq_some_iff.1 Y6.out).1
    obtain ⟨v1, b1, hf1, hfb1⟩ := from_ex a n c (qU bs 8) hn
    have HF1 := Lib.hid hf1
    have HQ1 := Lib.hid (fun V hV => HU.out 8 8 rfl (by decide) V hV)
    have hqb1 := qU_bound bs 8
    have HFB1 := Lib.hid hfb1
    obtain ⟨Q1, hQ1⟩ : ∃ Q, Q = qU bs 8 := ⟨_, rfl⟩
    rw [← hQ1] at HF1 HQ1 hqb1 HFB1
    have HE1 := Lib.hid hQ1
    clear hf1 hfb1 hQ1
    obtain ⟨v2, b2, hf2, hfb2⟩ := from_ex a n c (qU bs 12) hn
    have HF2 := Lib.hid hf2
    have HQ2 := Lib.hid (fun V hV => HU.out 12 12 rfl (by decide) V hV)
    have hqb2 := qU_bound bs 12
    have HFB2 := Lib.hid hfb2
    obtain ⟨Q2, hQ2⟩ : ∃ Q, Q = qU bs 12 := ⟨_, rfl⟩
    rw [← hQ2] at HF2 HQ2 hqb2 HFB2
    have HE2 := Lib.hid hQ2
    clear hf2 hfb2 hQ2
    obtain ⟨v3, b3, hf3, hfb3⟩ := from_ex a n c (qU bs 16) hn
    have HF3 := Lib.hid hf3
    have HQ3 := Lib.hid (fun V hV => HU.out 16 16 rfl (by decide) V hV)
    have hqb3 := qU_bound bs 16
    have HFB3 := Lib.hid hfb3
    obtain ⟨Q3, hQ3⟩ : ∃ Q, Q = qU bs 16 := ⟨_, rfl⟩
    rw [← hQ3] at HF3 HQ3 hqb3 HFB3
    have HE3 := Lib.hid hQ3
    clear hf3 hfb3 hQ3
    cases b1 with
    | false =>
      have HNO := Lib.hid (show ∀ r1 r2, ¬ GridOk bs 8 2 2 glyphs r1 r2 from fun r1 r2 ho => by
        rcases HFB1.out with ⟨h, _⟩ | ⟨_, hb, _⟩
        · cases h
        · rw [HE1.out] at hb
          have hl := ho.len
          have ha := ho.at1
          rw [HL.out] at hl ha
          exact qU_not hb HL.out (by omega) ha)
      go_wp2_with (first | (go_at_call 70; (with_reducible refine (HQ1.out X HBX.out).mono ?_); rintro e w_ ⟨rfl, rfl⟩) | (go_at_call 70; (with_reducible refine (HQ2.out X HBX.out).mono ?_); rintro e w_ ⟨rfl, rfl⟩) | (go_at_call 70; (with_reducible refine (HQ3.out X HBX.out).mono ?_); rintro e w_ ⟨rfl, rfl⟩) | (go_at_call 69; (with_reducible refine (HF1.out X).mono ?_); rintro e w_ ⟨rfl, rfl⟩) | (go_at_call 69; (with_reducible refine (HF2.out X).mono ?_); rintro e w_ ⟨rfl, rfl⟩) | (go_at_call 69; (with_reducible refine (HF3.out X).mono ?_); rintro e w_ ⟨rfl, rfl⟩))
      have z6 := heap10_at Y6.out (.int .i64 6) (.int .i64 0) (.int .i64 2) (.int .i64 2) (.slice a n c) (.slice none 0 0) (.slice none 0 0) (.slice none 0 0) (.slice none 0 0) (.slice none 0 0)
      have r6 := fun o => cell_of_heap z6 o
      refine bodyPost_ret (v := .tuple #[.agg #[.int .i64 6, .int .i64 0, .int .i64 2, .int .i64 2, .slice a n c, .slice none 0 0, .slice none 0 0, .slice none 0 0, .slice none 0 0, .slice none 0 0], .bool false]) (by simp [results, Try.results54, go_sem, r6]) rfl ?_
      exact ⟨.inr ⟨HNO.out, noT⟩, below10 HBX.out (Nat.le_refl _) _ _ _ _ _ _ _ _ _ _⟩
    | true =>
      cases b2 with
      | false =>
        have HNO := Lib.hid (show ∀ r1 r2, ¬ GridOk bs 8 2 2 glyphs r1 r2 from fun r1 r2 ho => by
          rcases HFB2.out with ⟨h, _⟩ | ⟨_, hb, _⟩
          · cases h
          · rw [HE2.out] at hb
            have hl := ho.len
            have ha := ho.at2
            rw [HL.out] at hl ha
            exact qU_not hb HL.out (by omega) ha)
        go_wp2_with (first | (go_at_call 70; (with_reducible refine (HQ1.out X HBX.out).mono ?_); rintro e w_ ⟨rfl, rfl⟩) | (go_at_call 70; (with_reducible refine (HQ2.out X HBX.out).mono ?_); rintro e w_ ⟨rfl, rfl⟩) | (go_at_call 70; (with_reducible refine (HQ3.out X HBX.out).mono ?_); rintro e w_ ⟨rfl, rfl⟩) | (go_at_call 69; (with_reducible refine (HF1.out X).mono ?_); rintro e w_ ⟨rfl, rfl⟩) | (go_at_call 69; (with_reducible refine (HF2.out X).mono ?_); rintro e w_ ⟨rfl, rfl⟩) | (go_at_call 69; (with_reducible refine (HF3.out X).mono ?_); rintro e w_ ⟨rfl, rfl⟩))
        have z6 := heap10_at Y6.out (.int .i64 6) (.int .i64 0) (.int .i64 2) (.int .i64 2) (.slice a n c) (.slice none 0 0) (.slice none 0 0) (.slice none 0 0) (.slice none 0 0) (.slice none 0 0)
        have r6 := fun o => cell_of_heap z6 o
        refine bodyPost_ret (v := .tuple #[.agg #[.int .i64 6, .int .i64 0, .int .i64 2, .int .i64 2, .slice a n c, .slice none 0 0, .slice none 0 0, .slice none 0 0, .slice none 0 0, .slice none 0 0], .bool false]) (by simp [results, Try.results54, go_sem, r6]) rfl ?_
        exact ⟨.inr ⟨HNO.out, noT⟩, below10 HBX.out (Nat.le_refl _) _ _ _ _ _ _ _ _ _ _⟩
      | true =>
        cases b3 with
        | false =>
          have HNO := Lib.hid (show ∀ r1 r2, ¬ GridOk bs 8 2 2 glyphs r1 r2 from fun r1 r2 ho => by
            rcases HFB3.out with ⟨h, _⟩ | ⟨_, hb, _⟩
            · cases h
            · rw [HE3.out] at hb
              have hl := ho.len
              have ha := ho.at3
              rw [HL.out] at hl ha
              exact qU_not hb HL.out (by omega) ha)
          go_wp2_with (first | (go_at_call 70; (with_reducible refine (HQ1.out X HBX.out).mono ?_); rintro e w_ ⟨rfl, rfl⟩) | (go_at_call 70; (with_reducible refine (HQ2.out X HBX.out).mono ?_); rintro e w_ ⟨rfl, rfl⟩) | (go_at_call 70; (with_reducible refine (HQ3.out X HBX.out).mono ?_); rintro e w_ ⟨rfl, rfl⟩) | (go_at_call 69; (with_reducible refine (HF1.out X).mono ?_); rintro e w_ ⟨rfl, rfl⟩) | (go_at_call 69; (with_reducible refine (HF2.out X).mono ?_); rintro e w_ ⟨rfl, rfl⟩) | (go_at_call 69; (with_reducible refine (HF3.out X).mono ?_); rintro e w_ ⟨rfl, rfl⟩))
          have z6 := heap10_at Y6.out (.int .i64 6) (.int .i64 0) (.int .i64 2) (.int .i64 2) (.slice a n c) (.slice none 0 0) (.slice none 0 0) (.slice none 0 0) (.slice none 0 0) (.slice none 0 0)
          have r6 := fun o => cell_of_heap z6 o
          refine bodyPost_ret (v := .tuple #[.agg #[.int .i64 6, .int .i64 0, .int .i64 2, .int .i64 2, .slice a n c, .slice none 0 0, .slice none 0 0, .slice none 0 0, .slice none 0 0, .slice none 0 0], .bool false]) (by simp [results, Try.results54, go_sem, r6]) rfl ?_
          exact ⟨.inr ⟨HNO.out, noT⟩, below10 HBX.out (Nat.le_refl _) _ _ _ _ _ _ _ _ _ _⟩
        | true =>
          obtain ⟨P1, hP1, hle1, rfl⟩ : ∃ P : Nat, Q1 = (P : Nat) ∧ P ≤ n ∧ v1 = .slice (adv a c P) (n - P) (c - P) := by
            rcases HFB1.out with ⟨_, k, h1, h2, h3⟩ | ⟨h, _⟩
            · exact ⟨k, h1, h2, h3⟩
            · cases h
          obtain ⟨hu1, hN1⟩ := qU_yes (HE1.out.symm.trans hP1)
          have HN1 := Lib.hid hN1
          subst hP1
          clear hN1
          obtain ⟨P2, hP2, hle2, rfl⟩ : ∃ P : Nat, Q2 = (P : Nat) ∧ P ≤ n ∧ v2 = .slice (adv a c P) (n - P) (c - P) := by
            rcases HFB2.out with ⟨_, k, h1, h2, h3⟩ | ⟨h, _⟩
            · exact ⟨k, h1, h2, h3⟩
            · cases h
          obtain ⟨hu2, hN2⟩ := qU_yes (HE2.out.symm.trans hP2)
          have HN2 := Lib.hid hN2
          subst hP2
          clear hN2
          obtain ⟨P3, hP3, hle3, rfl⟩ : ∃ P : Nat, Q3 = (P : Nat) ∧ P ≤ n ∧ v3 = .slice (adv a c P) (n - P) (c - P) := by
            rcases HFB3.out with ⟨_, k, h1, h2, h3⟩ | ⟨h, _⟩
            · exact ⟨k, h1, h2, h3⟩
            · cases h
          obtain ⟨hu3, hN3⟩ := qU_yes (HE3.out.symm.trans hP3)
          have HN3 := Lib.hid hN3
          subst hP3
          clear hN3
          rw [HL.out] at hu1 hu2 hu3
          clear HFB1 HFB2 HFB3 HE1 HE2 HE3
          have HY1 := Lib.hid (fun (rs : List RP) (hok : LkOk (bs.drop P1) glyphs 2 rs) (V : World) (hV : Below w.heap.size w V) => reflkS_yes (adv a c P1) (n - P1) (c - P1) (bs.drop P1) glyphs 2 (glyphs : Nat) 2 rfl rfl (.inl rfl) rs V (by rw [← bytesV_drop]; exact (HH.out.below hV).adv c P1 (by rw [bytesV_length, HL.out]; exact hn)) (by rw [List.length_drop, HL.out]) (by omega) (Nat.le_trans (Nat.sub_le _ _) hc) (by omega) hg1 hg2 hok)
          have HZ1 := Lib.hid (fun (hno : ∀ rs, ¬ LkOk (bs.drop P1) glyphs 2 rs) (V : World) (hV : Below w.heap.size w V) => reflkS_no (adv a c P1) (n - P1) (c - P1) (bs.drop P1) glyphs 2 (glyphs : Nat) 2 rfl rfl (.inl rfl) V (by rw [← bytesV_drop]; exact (HH.out.below hV).adv c P1 (by rw [bytesV_length, HL.out]; exact hn)) (by rw [List.length_drop, HL.out]) (by omega) (Nat.le_trans (Nat.sub_le _ _) hc) (by omega) hg1 hg2 hno)
          have HY2 := Lib.hid (fun (rs : List RP) (hok : LkOk (bs.drop P2) glyphs 2 rs) (V : World) (hV : Below w.heap.size w V) => reflkS_yes (adv a c P2) (n - P2) (c - P2) (bs.drop P2) glyphs 2 (glyphs : Nat) 2 rfl rfl (.inl rfl) rs V (by rw [← bytesV_drop]; exact (HH.out.below hV).adv c P2 (by rw [bytesV_length, HL.out]; exact hn)) (by rw [List.length_drop, HL.out]) (by omega) (Nat.le_trans (Nat.sub_le _ _) hc) (by omega) hg1 hg2 hok)
          have HZ2 := Lib.hid (fun (hno : ∀ rs, ¬ LkOk (bs.drop P2) glyphs 2 rs) (V : World) (hV : Below w.heap.size w V) => reflkS_no (adv a c P2) (n - P2) (c - P2) (bs.drop P2) glyphs 2 (glyphs : Nat) 2 rfl rfl (.inl rfl) V (by rw [← bytesV_drop]; exact (HH.out.below hV).adv c P2 (by rw [bytesV_length, HL.out]; exact hn)) (by rw [List.length_drop, HL.out]) (by omega) (Nat.le_trans (Nat.sub_le _ _) hc) (by omega) hg1 hg2 hno)
          have HX2 := Lib.hid (fun (V : World) (hV : Below w.heap.size w V) => reflk_ex (adv a c P2) (n - P2) (c - P2) (bs.drop P2) glyphs 2 (glyphs : Nat) 2 rfl rfl (.inl rfl) V (by rw [← bytesV_drop]; exact (HH.out.below hV).adv c P2 (by rw [bytesV_length, HL.out]; exact hn)) (by rw [List.length_drop, HL.out]) (by omega) (Nat.le_trans (Nat.sub_le _ _) hc) (by omega) hg1 hg2)
          go_wp2_with (first | (go_at_call 70; (with_reducible refine (HQ1.out X HBX.out).mono ?_); rintro e w_ ⟨rfl, rfl⟩) | (go_at_call 70; (with_reducible refine (HQ2.out X HBX.out).mono ?_); rintro e w_ ⟨rfl, rfl⟩) | (go_at_call 70; (with_reducible refine (HQ3.out X HBX.out).mono ?_); rintro e w_ ⟨rfl, rfl⟩) | (go_at_call 69; (with_reducible refine (HF1.out X).mono ?_); rintro e w_ ⟨rfl, rfl⟩) | (go_at_call 69; (with_reducible refine (HF2.out X).mono ?_); rintro e w_ ⟨rfl, rfl⟩) | (go_at_call 69; (with_reducible refine (HF3.out X).mono ?_); rintro e w_ ⟨rfl, rfl⟩))
          by_cases hk1 : ∃ r1, LkOk (bs.drop P1) glyphs 2 r1
          case neg =>
            have HNO := Lib.hid (show ∀ r1 r2, ¬ GridOk bs 8 2 2 glyphs r1 r2 from fun q1 q2 ho => hk1 ⟨_, by have := ho.lk1; rw [← HN1.out] at this; exact this⟩)
            refine (HZ1.out (fun rs h => hk1 ⟨rs, h⟩) X HBX.out).mono ?_
            rintro e w1 ⟨rfl, hb1⟩
            have y6 := (hb1.block _ l6).trans Y6.out
            have y8 := (hb1.block _ l8).trans Y8.out
            have q8 := fun o => cell_of_heap y8 o
            have f8 := fun o => froz_of_heap y8 o
            have m8 := (Array.getElem?_eq_some_iff.1 y8).1
            have hb1w := HBX.out.trans (hb1.mono HBX.out.size)
            obtain ⟨V, hV⟩ : ∃ V, V = (w1.setCell ⟨w.heap.size + 1, 6, none⟩ (.slice none 0 0)).setCell ⟨w.heap.size + 1, 7, none⟩ (.slice none 0 0) := ⟨_, rfl⟩
            have hV' := hV
            have hbV : Below w.heap.size w V := by rw [hV]; exact (hb1w.setCell (p := ⟨w.heap.size + 1, 6, none⟩) (Nat.le_succ _) _).setCell (p := ⟨w.heap.size + 1, 7, none⟩) (Nat.le_succ _) _
            have z8 : V.heap[w.heap.size + 1]? = some (.cells #[.int .i64 6, .int .i64 0, .int .i64 2, .int .i64 2, .slice a n c, .slice none 0 0, .slice none 0 0, .slice none 0 0, .slice none 0 0, .slice none 0 0] 104 (0, 0)) := by rw [hV]; exact set_heap_at (o := 7) _ (set_heap_at (o := 6) _ y8)
            have z6 : V.heap[w.heap.size]? = some (.cells #[.int .i64 0, .int .i64 0, .int .i64 0, .int .i64 0, .slice none 0 0, .slice none 0 0, .slice none 0 0, .slice none 0 0, .slice none 0 0, .slice none 0 0] 104 (0, 0)) := by rw [hV]; exact (set_heap_other _ (by omega)).trans ((set_heap_other _ (by omega)).trans y6)
            have HBV := Lib.hid hbV
            have Z8 := Lib.hid z8
            have Z6 := Lib.hid z6
            clear hV hbV z8 z6 y6 y8 hb1w
            go_wp2_with fail
            rw [← hV']
            clear hV' q8 f8 m8 l8 l6 q6 f6
            refine (HX2.out V HBV.out).mono ?_
            rintro e w2 ⟨⟨a3, n3, c3, a4, n4, c4, b2, rfl⟩, hb2⟩
            have l8 := (Array.getElem?_eq_some_iff.1 Z8.out).1
            have l6 := (Array.getElem?_eq_some_iff.1 Z6.out).1
            have y6 := (hb2.block _ l6).trans Z6.out
            have y8 := (hb2.block _ l8).trans Z8.out
            have q8 := fun o => cell_of_heap y8 o
            have f8 := fun o => froz_of_heap y8 o
            have m8 := (Array.getElem?_eq_some_iff.1 y8).1
            have hb2w := HBV.out.trans (hb2.mono HBV.out.size)
            obtain ⟨Y, hY⟩ : ∃ Y, Y = ((w2.setCell ⟨w.heap.size + 1, 8, none⟩ (.slice a3 n3 c3)).setCell ⟨w.heap.size + 1, 9, none⟩ (.slice a4 n4 c4)).setCell ⟨w.heap.size + 1, 5, none⟩ (.slice (adv a c P3) (n - P3) (c - P3)) := ⟨_, rfl⟩
            have hY' := hY
            have hbY : Below w.heap.size w Y := by rw [hY]; exact ((hb2w.setCell (p := ⟨w.heap.size + 1, 8, none⟩) (Nat.le_succ _) _).setCell (p := ⟨w.heap.size + 1, 9, none⟩) (Nat.le_succ _) _).setCell (p := ⟨w.heap.size + 1, 5, none⟩) (Nat.le_succ _) _
            have k8 : Y.heap[w.heap.size + 1]? = some (.cells #[.int .i64 6, .int .i64 0, .int .i64 2, .int .i64 2, .slice a n c, .slice (adv a c P3) (n - P3) (c - P3), .slice none 0 0, .slice none 0 0, .slice a3 n3 c3, .slice a4 n4 c4] 104 (0, 0)) := by rw [hY]; exact set_heap_at (o := 5) _ (set_heap_at (o := 9) _ (set_heap_at (o := 8) _ y8))
            have k6 : Y.heap[w.heap.size]? = some (.cells #[.int .i64 0, .int .i64 0, .int .i64 0, .int .i64 0, .slice none 0 0, .slice none 0 0, .slice none 0 0, .slice none 0 0, .slice none 0 0, .slice none 0 0] 104 (0, 0)) := by rw [hY]; exact (set_heap_other _ (by omega)).trans ((set_heap_other _ (by omega)).trans ((set_heap_other _ (by omega)).trans y6))
            have HBY := Lib.hid hbY
            have K8 := Lib.hid k8
            have K6 := Lib.hid k6
            clear hY hbY k8 k6 y6 y8 hb2w
            go_wp2_with fail
            rw [← hY']
            clear hY' q8 f8 m8 l8 l6
            have q8 := fun o => cell_of_heap K8.out o
            have l8 := (Array.getElem?_eq_some_iff.1 K8.out).1
            have f6 := fun o => froz_of_heap K6.out o
            have q6 := fun o => cell_of_heap K6.out o
            have l6 := (Array.getElem?_eq_some_iff.1 K6.out).1
            refine wp_region_tree (.step 0 (.step 1 (.step 2 (.step 3 (.step 4 (.step 5 (.step 6 (.step 7 (.step 8 (.step 9 (.step 10 (.step 11 (.step 13 (.step 14 (.step 18 (.step 19 (.step 12 (.step 15 (.step 16 (.step 17 (.step 20 (.step 21 (.step 22 (.step 23 .nil)))))))))))))))))))))))) (by kernel_rfl) (by kernel_rfl) (by kernel_rfl) (by kernel_rfl) (by intro _ _ d_ _ _ h_; cases d_ <;> first | exact h_ | (dsimp +zetaDelta only at h_ ⊢; exact h_)) (fun w' => ∃ p : Wld Y [w.heap.size], w' = p.val) (wld_start _ _) ?_
            have hG_ := @wldC1 Y w.heap.size
            (refine tree_quiet gtA (by rfl) (by rfl) (fun K_ hK_ => ?_); go_big_quiet_op; refine hK_ _ ?_; clear hK_ K_)
            (refine tree_quiet gtA (by rfl) (by rfl) (fun K_ hK_ => ?_); go_big_quiet_op; refine hK_ _ ?_; clear hK_ K_)
            (refine tree_quiet gtA (by rfl) (by rfl) (fun K_ hK_ => ?_); go_big_quiet_op; refine hK_ _ ?_; clear hK_ K_)
            refine tree_skip gtA (by rfl) ?_; dsimp only [Act.put]; simp only [List.setIfInBounds_toArray, List.set_cons_succ, List.set_cons_zero]
            (refine tree_quiet gtA (by rfl) (by rfl) (fun K_ hK_ => ?_); go_big_quiet_op; refine hK_ _ ?_; clear hK_ K_)
            (refine tree_quiet gtA (by rfl) (by rfl) (fun K_ hK_ => ?_); go_big_quiet_op; refine hK_ _ ?_; clear hK_ K_)
            refine tree_skip gtA (by rfl) ?_; dsimp only [Act.put]; simp only [List.setIfInBounds_toArray, List.set_cons_succ, List.set_cons_zero]
            refine tree_skip gtA (by rfl) ?_; dsimp only [Act.put]; simp only [List.setIfInBounds_toArray, List.set_cons_succ, List.set_cons_zero]
            refine tree_skip gtA (by rfl) ?_; dsimp only [Act.put]; simp only [List.setIfInBounds_toArray, List.set_cons_succ, List.set_cons_zero]
            refine tree_skip gtA (by rfl) ?_; dsimp only [Act.put]; simp only [List.setIfInBounds_toArray, List.set_cons_succ, List.set_cons_zero]
            refine tree_skip gtA (by rfl) ?_; dsimp only [Act.put]; simp only [List.setIfInBounds_toArray, List.set_cons_succ, List.set_cons_zero]
            refine tree_skip gtA (by rfl) ?_; dsimp only [Act.put]; simp only [List.setIfInBounds_toArray, List.set_cons_succ, List.set_cons_zero]
            refine tree_skip gtA (by rfl) ?_; dsimp only [Act.put]; simp only [List.setIfInBounds_toArray, List.set_cons_succ, List.set_cons_zero]
            refine tree_skip gtA (by rfl) ?_; dsimp only [Act.put]; simp only [List.setIfInBounds_toArray, List.set_cons_succ, List.set_cons_zero]
            refine tree_skip gtA (by rfl) ?_; dsimp only [Act.put]; simp only [List.setIfInBounds_toArray, List.set_cons_succ, List.set_cons_zero]
            refine tree_skip gtA (by rfl) ?_; dsimp only [Act.put]; simp only [List.setIfInBounds_toArray, List.set_cons_succ, List.set_cons_zero]
            refine tree_skip gtA (by rfl) ?_; dsimp only [Act.put]; simp only [List.setIfInBounds_toArray, List.set_cons_succ, List.set_cons_zero]
            refine tree_skip gtA (by rfl) ?_; dsimp only [Act.put]; simp only [List.setIfInBounds_toArray, List.set_cons_succ, List.set_cons_zero]
            refine tree_skip gtA (by rfl) ?_; dsimp only [Act.put]; simp only [List.setIfInBounds_toArray, List.set_cons_succ, List.set_cons_zero]
            refine tree_skip gtA (by rfl) ?_; dsimp only [Act.put]; simp only [List.setIfInBounds_toArray, List.set_cons_succ, List.set_cons_zero]
            refine tree_skip gtA (by rfl) ?_; dsimp only [Act.put]; simp only [List.setIfInBounds_toArray, List.set_cons_succ, List.set_cons_zero]
            (refine tree_quiet gtA (by rfl) (by rfl) (fun K_ hK_ => ?_); go_big_quiet_op; refine hK_ _ ?_; clear hK_ K_)
            (refine tree_run gtA (by rfl) (by rfl) (fun K_ hK_ => ?_); have HK_ := Lib.hid hK_; clear hK_; (first | ((refine wpStoreO 104 _ _ rfl w.heap.size _ #[.int .i64 6, .int .i64 0, .int .i64 2, .int .i64 2, .slice a n c, .slice (adv a c P3) (n - P3) (c - P3), .slice none 0 0, .slice none 0 0, .slice a3 n3 c3, .slice a4 n4 c4] rfl rfl K6.out size22 rfl (by simp [Value.oneCell']) ?_; intro wS hS hSo hSz hSb; have hSame : Same Y [w.heap.size] wS := ⟨Nat.le_of_eq hSz.symm, fun k _ hk => hSo k (by simpa using hk)⟩; (try dsimp only [Act.put]))) | (go_wp2_with (fail))); refine HK_.out _ _ (wld_ofA) ?_; clear HK_)
            (refine tree_quiet gtA (by rfl) (by rfl) (fun K_ hK_ => ?_); go_big_quiet_op; refine hK_ _ ?_; clear hK_ K_)
            refine tree_nil ?_
            clear hG_
            go_wp2_with fail
            have r6 := fun o => cell_of_heap hS o
            refine bodyPost_ret (v := .tuple #[.agg #[.int .i64 6, .int .i64 0, .int .i64 2, .int .i64 2, .slice a n c, .slice (adv a c P3) (n - P3) (c - P3), .slice none 0 0, .slice none 0 0, .slice a3 n3 c3, .slice a4 n4 c4], .bool false]) (by simp [results, Try.results54, go_sem, r6]) rfl ?_
            exact ⟨.inr ⟨HNO.out, noT⟩, by first | exact HBY.out.trans hSb | exact (bdrew1 HBY.out).trans hSb⟩
          obtain ⟨r1, hk1⟩ := hk1
          refine (HY1.out r1 hk1 X HBX.out).mono ?_
          rintro e w1 ⟨a1, c1, rfl, hhas1, hb1⟩
          have HAS1 := Lib.hid hhas1
          have HK1 := Lib.hid hk1
          clear hhas1 hk1
          have y6 := (hb1.block _ l6).trans Y6.out
          have y8 := (hb1.block _ l8).trans Y8.out
          have q8 := fun o => cell_of_heap y8 o
          have f8 := fun o => froz_of_heap y8 o
          have m8 := (Array.getElem?_eq_some_iff.1 y8).1
          have hb1w := HBX.out.trans (hb1.mono HBX.out.size)
          obtain ⟨V, hV⟩ : ∃ V, V = (w1.setCell ⟨w.heap.size + 1, 6, none⟩ (.slice (adv a c P1) (n - P1) (c - P1))).setCell ⟨w.heap.size + 1, 7, none⟩ (.slice a1 r1.length c1) := ⟨_, rfl⟩
          have hV' := hV
          have hbV : Below w.heap.size w V := by rw [hV]; exact (hb1w.setCell (p := ⟨w.heap.size + 1, 6, none⟩) (Nat.le_succ _) _).setCell (p := ⟨w.heap.size + 1, 7, none⟩) (Nat.le_succ _) _
          have z8 : V.heap[w.heap.size + 1]? = some (.cells #[.int .i64 6, .int .i64 0, .int .i64 2, .int .i64 2, .slice a n c, .slice none 0 0, .slice (adv a c P1) (n - P1) (c - P1), .slice a1 r1.length c1, .slice none 0 0, .slice none 0 0] 104 (0, 0)) := by rw [hV]; exact set_heap_at (o := 7) _ (set_heap_at (o := 6) _ y8)
          have z6 : V.heap[w.heap.size]? = some (.cells #[.int .i64 0, .int .i64 0, .int .i64 0, .int .i64 0, .slice none 0 0, .slice none 0 0, .slice none 0 0, .slice none 0 0, .slice none 0 0, .slice none 0 0] 104 (0, 0)) := by rw [hV]; exact (set_heap_other _ (by omega)).trans ((set_heap_other _ (by omega)).trans y6)
          have HASV := Lib.hid (show Has V a1 (encRs r1) from by rw [hV']; exact has_far7 (has_far7 HAS1.out (o := 6) y8 (noInt _ _ _ _ _ _ _ _ _ _ _ _ _ _ _ _ _ _ _ _ _ _) _) (o := 7) (set_heap_at (o := 6) _ y8) (noInt _ _ _ _ _ _ _ _ _ _ _ _ _ _ _ _ _ _ _ _ _ _) _)
          have HBV := Lib.hid hbV
          have Z8 := Lib.hid z8
          have Z6 := Lib.hid z6
          clear hV hbV z8 z6 y6 y8 hb1w
          go_wp2_with fail
          rw [← hV']
          clear hV' q8 f8 m8 l8 l6 q6 f6
          by_cases hk2 : ∃ r2, LkOk (bs.drop P2) glyphs 2 r2
          case neg =>
            have HNO := Lib.hid (show ∀ r1 r2, ¬ GridOk bs 8 2 2 glyphs r1 r2 from fun q1 q2 ho => hk2 ⟨_, by have := ho.lk2; rw [← HN2.out] at this; exact this⟩)
            refine (HZ2.out (fun rs h => hk2 ⟨rs, h⟩) V HBV.out).mono ?_
            rintro e w2 ⟨rfl, hb2⟩
            have l8 := (Array.getElem?_eq_some_iff.1 Z8.out).1
            have l6 := (Array.getElem?_eq_some_iff.1 Z6.out).1
            have y6 := (hb2.block _ l6).trans Z6.out
            have y8 := (hb2.block _ l8).trans Z8.out
            have q8 := fun o => cell_of_heap y8 o
            have f8 := fun o => froz_of_heap y8 o
            have m8 := (Array.getElem?_eq_some_iff.1 y8).1
            have hb2w := HBV.out.trans (hb2.mono HBV.out.size)
            obtain ⟨Y, hY⟩ : ∃ Y, Y = ((w2.setCell ⟨w.heap.size + 1, 8, none⟩ (.slice none 0 0)).setCell ⟨w.heap.size + 1, 9, none⟩ (.slice none 0 0)).setCell ⟨w.heap.size + 1, 5, none⟩ (.slice (adv a c P3) (n - P3) (c - P3)) := ⟨_, rfl⟩
            have hY' := hY
            have hbY : Below w.heap.size w Y := by rw [hY]; exact ((hb2w.setCell (p := ⟨w.heap.size + 1, 8, none⟩) (Nat.le_succ _) _).setCell (p := ⟨w.heap.size + 1, 9, none⟩) (Nat.le_succ _) _).setCell (p := ⟨w.heap.size + 1, 5, none⟩) (Nat.le_succ _) _
            have k8 : Y.heap[w.heap.size + 1]? = some (.cells #[.int .i64 6, .int .i64 0, .int .i64 2, .int .i64 2, .slice a n c, .slice (adv a c P3) (n - P3) (c - P3), .slice (adv a c P1) (n - P1) (c - P1), .slice a1 r1.length c1, .slice none 0 0, .slice none 0 0] 104 (0, 0)) := by rw [hY]; exact set_heap_at (o := 5) _ (set_heap_at (o := 9) _ (set_heap_at (o := 8) _ y8))
            have k6 : Y.heap[w.heap.size]? = some (.cells #[.int .i64 0, .int .i64 0, .int .i64 0, .int .i64 0, .slice none 0 0, .slice none 0 0, .slice none 0 0, .slice none 0 0, .slice none 0 0, .slice none 0 0] 104 (0, 0)) := by rw [hY]; exact (set_heap_other _ (by omega)).trans ((set_heap_other _ (by omega)).trans ((set_heap_other _ (by omega)).trans y6))
            have HBY := Lib.hid hbY
            have K8 := Lib.hid k8
            have K6 := Lib.hid k6
            clear hY hbY k8 k6 y6 y8 hb2w
            go_wp2_with fail
            rw [← hY']
            clear hY' q8 f8 m8 l8 l6
            have q8 := fun o => cell_of_heap K8.out o
            have l8 := (Array.getElem?_eq_some_iff.1 K8.out).1
            have f6 := fun o => froz_of_heap K6.out o
            have q6 := fun o => cell_of_heap K6.out o
            have l6 := (Array.getElem?_eq_some_iff.1 K6.out).1
            refine wp_region_tree (.step 0 (.step 1 (.step 2 (.step 3 (.step 4 (.step 5 (.step 6 (.step 7 (.step 8 (.step 9 (.step 10 (.step 11 (.step 13 (.step 14 (.step 18 (.step 19 (.step 12 (.step 15 (.step 16 (.step 17 (.step 20 (.step 21 (.step 22 (.step 23 .nil)))))))))))))))))))))))) (by kernel_rfl) (by kernel_rfl) (by kernel_rfl) (by kernel_rfl) (by intro _ _ d_ _ _ h_; cases d_ <;> first | exact h_ | (dsimp +zetaDelta only at h_ ⊢; exact h_)) (fun w' => ∃ p : Wld Y [w.heap.size], w' = p.val) (wld_start _ _) ?_
            have hG_ := @wldC1 Y w.heap.size
            (refine tree_quiet gtA (by rfl) (by rfl) (fun K_ hK_ => ?_); go_big_quiet_op; refine hK_ _ ?_; clear hK_ K_)
            (refine tree_quiet gtA (by rfl) (by rfl) (fun K_ hK_ => ?_); go_big_quiet_op; refine hK_ _ ?_; clear hK_ K_)
            (refine tree_quiet gtA (by rfl) (by rfl) (fun K_ hK_ => ?_); go_big_quiet_op; refine hK_ _ ?_; clear hK_ K_)
            (refine tree_quiet gtA (by rfl) (by rfl) (fun K_ hK_ => ?_); go_big_quiet_op; refine hK_ _ ?_; clear hK_ K_)
            (refine tree_quiet gtA (by rfl) (by rfl) (fun K_ hK_ => ?_); go_big_quiet_op; refine hK_ _ ?_; clear hK_ K_)
            (refine tree_quiet gtA (by rfl) (by rfl) (fun K_ hK_ => ?_); go_big_quiet_op; refine hK_ _ ?_; clear hK_ K_)
            refine tree_skip gtA (by rfl) ?_; dsimp only [Act.put]; simp only [List.setIfInBounds_toArray, List.set_cons_succ, List.set_cons_zero]
            refine tree_skip gtA (by rfl) ?_; dsimp only [Act.put]; simp only [List.setIfInBounds_toArray, List.set_cons_succ, List.set_cons_zero]
            refine tree_skip gtA (by rfl) ?_; dsimp only [Act.put]; simp only [List.setIfInBounds_toArray, List.set_cons_succ, List.set_cons_zero]
            refine tree_skip gtA (by rfl) ?_; dsimp only [Act.put]; simp only [List.setIfInBounds_toArray, List.set_cons_succ, List.set_cons_zero]
            refine tree_skip gtA (by rfl) ?_; dsimp only [Act.put]; simp only [List.setIfInBounds_toArray, List.set_cons_succ, List.set_cons_zero]
            refine tree_skip gtA (by rfl) ?_; dsimp only [Act.put]; simp only [List.setIfInBounds_toArray, List.set_cons_succ, List.set_cons_zero]
            refine tree_skip gtA (by rfl) ?_; dsimp only [Act.put]; simp only [List.setIfInBounds_toArray, List.set_cons_succ, List.set_cons_zero]
            refine tree_skip gtA (by rfl) ?_; dsimp only [Act.put]; simp only [List.setIfInBounds_toArray, List.set_cons_succ, List.set_cons_zero]
            refine tree_skip gtA (by rfl) ?_; dsimp only [Act.put]; simp only [List.setIfInBounds_toArray, List.set_cons_succ, List.set_cons_zero]
            refine tree_skip gtA (by rfl) ?_; dsimp only [Act.put]; simp only [List.setIfInBounds_toArray, List.set_cons_succ, List.set_cons_zero]
            refine tree_skip gtA (by rfl) ?_; dsimp only [Act.put]; simp only [List.setIfInBounds_toArray, List.set_cons_succ, List.set_cons_zero]
            refine tree_skip gtA (by rfl) ?_; dsimp only [Act.put]; simp only [List.setIfInBounds_toArray, List.set_cons_succ, List.set_cons_zero]
            refine tree_skip gtA (by rfl) ?_; dsimp only [Act.put]; simp only [List.setIfInBounds_toArray, List.set_cons_succ, List.set_cons_zero]
            refine tree_skip gtA (by rfl) ?_; dsimp only [Act.put]; simp only [List.setIfInBounds_toArray, List.set_cons_succ, List.set_cons_zero]
            refine tree_skip gtA (by rfl) ?_; dsimp only [Act.put]; simp only [List.setIfInBounds_toArray, List.set_cons_succ, List.set_cons_zero]
            (refine tree_quiet gtA (by rfl) (by rfl) (fun K_ hK_ => ?_); go_big_quiet_op; refine hK_ _ ?_; clear hK_ K_)
            (refine tree_run gtA (by rfl) (by rfl) (fun K_ hK_ => ?_); have HK_ := Lib.hid hK_; clear hK_; (first | ((refine wpStoreO 104 _ _ rfl w.heap.size _ #[.int .i64 6, .int .i64 0, .int .i64 2, .int .i64 2, .slice a n c, .slice (adv a c P3) (n - P3) (c - P3), .slice (adv a c P1) (n - P1) (c - P1), .slice a1 r1.length c1, .slice none 0 0, .slice none 0 0] rfl rfl K6.out size22 rfl (by simp [Value.oneCell']) ?_; intro wS hS hSo hSz hSb; have hSame : Same Y [w.heap.size] wS := ⟨Nat.le_of_eq hSz.symm, fun k _ hk => hSo k (by simpa using hk)⟩; (try dsimp only [Act.put]))) | (go_wp2_with (fail))); refine HK_.out _ _ (wld_ofA) ?_; clear HK_)
            (refine tree_quiet gtA (by rfl) (by rfl) (fun K_ hK_ => ?_); go_big_quiet_op; refine hK_ _ ?_; clear hK_ K_)
            refine tree_nil ?_
            clear hG_
            go_wp2_with fail
            have r6 := fun o => cell_of_heap hS o
            refine bodyPost_ret (v := .tuple #[.agg #[.int .i64 6, .int .i64 0, .int .i64 2, .int .i64 2, .slice a n c, .slice (adv a c P3) (n - P3) (c - P3), .slice (adv a c P1) (n - P1) (c - P1), .slice a1 r1.length c1, .slice none 0 0, .slice none 0 0], .bool false]) (by simp [results, Try.results54, go_sem, r6]) rfl ?_
            exact ⟨.inr ⟨HNO.out, noT⟩, by first | exact HBY.out.trans hSb | exact (bdrew1 HBY.out).trans hSb⟩
          obtain ⟨r2, hk2⟩ := hk2
          refine (HY2.out r2 hk2 V HBV.out).mono ?_
          rintro e w2 ⟨a2, c2, rfl, hhas2, hb2⟩
          have HAS2 := Lib.hid hhas2
          have HAS1W := Lib.hid (HASV.out.below hb2)
          have HK2 := Lib.hid hk2
          clear hhas2 hk2
          have l8 := (Array.getElem?_eq_some_iff.1 Z8.out).1
          have l6 := (Array.getElem?_eq_some_iff.1 Z6.out).1
          have y6 := (hb2.block _ l6).trans Z6.out
          have y8 := (hb2.block _ l8).trans Z8.out
          have q8 := fun o => cell_of_heap y8 o
          have f8 := fun o => froz_of_heap y8 o
          have m8 := (Array.getElem?_eq_some_iff.1 y8).1
          have hb2w := HBV.out.trans (hb2.mono HBV.out.size)
          obtain ⟨Y, hY⟩ : ∃ Y, Y = ((w2.setCell ⟨w.heap.size + 1, 8, none⟩ (.slice (adv a c P2) (n - P2) (c - P2))).setCell ⟨w.heap.size + 1, 9, none⟩ (.slice a2 r2.length c2)).setCell ⟨w.heap.size + 1, 5, none⟩ (.slice (adv a c P3) (n - P3) (c - P3)) := ⟨_, rfl⟩
          have hY' := hY
          have hbY : Below w.heap.size w Y := by rw [hY]; exact ((hb2w.setCell (p := ⟨w.heap.size + 1, 8, none⟩) (Nat.le_succ _) _).setCell (p := ⟨w.heap.size + 1, 9, none⟩) (Nat.le_succ _) _).setCell (p := ⟨w.heap.size + 1, 5, none⟩) (Nat.le_succ _) _
          have k8 : Y.heap[w.heap.size + 1]? = some (.cells #[.int .i64 6, .int .i64 0, .int .i64 2, .int .i64 2, .slice a n c, .slice (adv a c P3) (n - P3) (c - P3), .slice (adv a c P1) (n - P1) (c - P1), .slice a1 r1.length c1, .slice (adv a c P2) (n - P2) (c - P2), .slice a2 r2.length c2] 104 (0, 0)) := by rw [hY]; exact set_heap_at (o := 5) _ (set_heap_at (o := 9) _ (set_heap_at (o := 8) _ y8))
          have k6 : Y.heap[w.heap.size]? = some (.cells #[.int .i64 0, .int .i64 0, .int .i64 0, .int .i64 0, .slice none 0 0, .slice none 0 0, .slice none 0 0, .slice none 0 0, .slice none 0 0, .slice none 0 0] 104 (0, 0)) := by rw [hY]; exact (set_heap_other _ (by omega)).trans ((set_heap_other _ (by omega)).trans ((set_heap_other _ (by omega)).trans y6))
          have HBY := Lib.hid hbY
          have K8 := Lib.hid k8
          have K6 := Lib.hid k6
          have HASY1 := Lib.hid (show Has Y a1 (encRs r1) from by rw [hY']; exact has_far7 (has_far7 (has_far7 HAS1W.out (o := 8) y8 (noInt _ _ _ _ _ _ _ _ _ _ _ _ _ _ _ _ _ _ _ _ _ _) _) (o := 9) (set_heap_at (o := 8) _ y8) (noInt _ _ _ _ _ _ _ _ _ _ _ _ _ _ _ _ _ _ _ _ _ _) _) (o := 5) (set_heap_at (o := 9) _ (set_heap_at (o := 8) _ y8)) (noInt _ _ _ _ _ _ _ _ _ _ _ _ _ _ _ _ _ _ _ _ _ _) _)
          have HASY2 := Lib.hid (show Has Y a2 (encRs r2) from by rw [hY']; exact has_far7 (has_far7 (has_far7 HAS2.out (o := 8) y8 (noInt _ _ _ _ _ _ _ _ _ _ _ _ _ _ _ _ _ _ _ _ _ _) _) (o := 9) (set_heap_at (o := 8) _ y8) (noInt _ _ _ _ _ _ _ _ _ _ _ _ _ _ _ _ _ _ _ _ _ _) _) (o := 5) (set_heap_at (o := 9) _ (set_heap_at (o := 8) _ y8)) (noInt _ _ _ _ _ _ _ _ _ _ _ _ _ _ _ _ _ _ _ _ _ _) _)
          clear hY hbY k8 k6 y6 y8 hb2w
          go_wp2_with fail
          rw [← hY']
          clear hY' q8 f8 m8 l8 l6
          have q8 := fun o => cell_of_heap K8.out o
          have l8 := (Array.getElem?_eq_some_iff.1 K8.out).1
          have f6 := fun o => froz_of_heap K6.out o
          have q6 := fun o => cell_of_heap K6.out o
          have l6 := (Array.getElem?_eq_some_iff.1 K6.out).1
          have HM1 := Lib.hid (fun (Z : World) (hZ : Below Y.heap.size Y Z) => refmost_any (adv a c P1) (n - P1) (c - P1) (bs.drop P1) glyphs 2 a1 c1 r1 Z (by rw [← bytesV_drop]; exact (HH.out.below (HBY.out.trans (hZ.mono HBY.out.size))).adv c P1 (by rw [bytesV_length, HL.out]; exact hn)) (by rw [List.length_drop, HL.out]) (by omega) (HASY1.out.below hZ) hg2 (.inl rfl) HK1.out)
          have HM2 := Lib.hid (fun (Z : World) (hZ : Below Y.heap.size Y Z) => refmost_any (adv a c P2) (n - P2) (c - P2) (bs.drop P2) glyphs 2 a2 c2 r2 Z (by rw [← bytesV_drop]; exact (HH.out.below (HBY.out.trans (hZ.mono HBY.out.size))).adv c P2 (by rw [bytesV_length, HL.out]; exact hn)) (by rw [List.length_drop, HL.out]) (by omega) (HASY2.out.below hZ) hg2 (.inl rfl) HK2.out)
          have hm1 := mostR_le' (HK1.out.fit hg2 (.inl rfl))
          have hm2 := mostR_le' (HK2.out.fit hg2 (.inl rfl))
          obtain ⟨m1, he1⟩ : ∃ m, m = mostR (bs.drop P1) r1 := ⟨_, rfl⟩
          obtain ⟨m2, he2⟩ : ∃ m, m = mostR (bs.drop P2) r2 := ⟨_, rfl⟩
          rw [← he1] at HM1 hm1
          rw [← he2] at HM2 hm2
          have HE1 := Lib.hid he1
          have HE2 := Lib.hid he2
          clear he1 he2
          have w1_ : IntKind.i64.wrap ((m1 : Int) + (m2 : Int)) = (m1 : Int) + (m2 : Int) := IntWalk.i64_in _ (by omega)
          have w2_ : IntKind.i64.wrap (2 * ((m1 : Int) + (m2 : Int))) = 2 * ((m1 : Int) + (m2 : Int)) := IntWalk.i64_in _ (by omega)
          by_cases hfar : 2 * (m1 + m2) + 2 ≤ n - P3
          · have hd : decide ((0 : Int) ≤ 2 * ((m1 : Int) + (m2 : Int)) ∧ (0 : Int) ≤ 2 ∧ 2 * ((m1 : Int) + (m2 : Int)) ≤ ((n - P3 : Nat) : Int) ∧ 2 ≤ ((n - P3 : Nat) : Int) - 2 * ((m1 : Int) + (m2 : Int))) = true := by simp only [decide_eq_true_eq, decide_eq_false_iff_not]; omega
            have HIN := Lib.hid (fun (z : Int) (hz : z = 2 * ((m1 : Int) + (m2 : Int))) (Z : World) => show Calls Try.prog 73 #[.int .i64 ((n - P3 : Nat) : Int), .int .i64 z, .int .i64 2] Z fun e w' => e = .returned (.bool true) ∧ Z = w' from by have hin := in_any (n - P3) (2 * ((m1 : Int) + (m2 : Int))) 2 Z (by omega) (by omega) (by decide); rw [hd] at hin; subst hz; exact hin)
            clear hd
            refine wp_region_tree (.step 0 (.step 1 (.step 2 (.step 3 (.step 4 (.step 5 (.step 6 (.step 7 (.step 8 (.step 9 (.step 10 (.step 11 (.step 13 (.step 14 (.step 18 (.step 19 (.step 12 (.step 15 (.step 16 (.step 17 (.step 20 (.step 21 (.step 22 (.step 23 .nil)))))))))))))))))))))))) (by kernel_rfl) (by kernel_rfl) (by kernel_rfl) (by kernel_rfl) (by intro _ _ d_ _ _ h_; cases d_ <;> first | exact h_ | (dsimp +zetaDelta only at h_ ⊢; exact h_)) (fun w' => ∃ p : Wld Y [w.heap.size], w' = p.val) (wld_start _ _) ?_
            have hG_ := @wldC1 Y w.heap.size
            (refine tree_quiet gtA (by rfl) (by rfl) (fun K_ hK_ => ?_); go_big_quiet_op; refine hK_ _ ?_; clear hK_ K_)
            (refine tree_quiet gtA (by rfl) (by rfl) (fun K_ hK_ => ?_); go_big_quiet_op; refine hK_ _ ?_; clear hK_ K_)
            (refine tree_quiet gtA (by rfl) (by rfl) (fun K_ hK_ => ?_); go_big_quiet_op; refine hK_ _ ?_; clear hK_ K_)
            (refine tree_quiet gtA (by rfl) (by rfl) (fun K_ hK_ => ?_); go_big_quiet_op; refine hK_ _ ?_; clear hK_ K_)
            (refine tree_quiet gtA (by rfl) (by rfl) (fun K_ hK_ => ?_); go_big_quiet_op; refine hK_ _ ?_; clear hK_ K_)
            (refine tree_quiet gtA (by rfl) (by rfl) (fun K_ hK_ => ?_); go_big_quiet_op; refine hK_ _ ?_; clear hK_ K_)
            (refine tree_quiet gtA (by rfl) (by rfl) (fun K_ hK_ => ?_); go_big_quiet_op; refine hK_ _ ?_; clear hK_ K_)
            (refine tree_quiet gtA (by rfl) (by rfl) (fun K_ hK_ => ?_); go_big_quiet_op; refine hK_ _ ?_; clear hK_ K_)
            (refine tree_quiet gtA (by rfl) (by rfl) (fun K_ hK_ => ?_); go_big_quiet_op; refine hK_ _ ?_; clear hK_ K_)
            (refine tree_quiet gtA (by rfl) (by rfl) (fun K_ hK_ => ?_); go_big_quiet_op; refine hK_ _ ?_; clear hK_ K_)
            (refine tree_quiet gtA (by rfl) (by rfl) (fun K_ hK_ => ?_); go_big_quiet_op; refine hK_ _ ?_; clear hK_ K_)
            (refine tree_quiet gtA (by rfl) (by rfl) (fun K_ hK_ => ?_); go_big_quiet_op; refine hK_ _ ?_; clear hK_ K_)
            (refine tree_quiet gtA (by rfl) (by rfl) (fun K_ hK_ => ?_); go_big_quiet_op; refine hK_ _ ?_; clear hK_ K_)
            (refine tree_quiet gtA (by rfl) (by rfl) (fun K_ hK_ => ?_); go_big_quiet_op; refine hK_ _ ?_; clear hK_ K_)
            (refine tree_quiet gtA (by rfl) (by rfl) (fun K_ hK_ => ?_); go_big_quiet_op; refine hK_ _ ?_; clear hK_ K_)
            (refine tree_quiet gtA (by rfl) (by rfl) (fun K_ hK_ => ?_); go_big_quiet_op; refine hK_ _ ?_; clear hK_ K_)
            (refine tree_run gtA (by rfl) (by rfl) (fun K_ hK_ => ?_); have HK_ := Lib.hid hK_; clear hK_; (first | ((refine wpStoreO 104 _ _ rfl w.heap.size _ #[.int .i64 6, .int .i64 0, .int .i64 2, .int .i64 2, .slice a n c, .slice (adv a c P3) (n - P3) (c - P3), .slice (adv a c P1) (n - P1) (c - P1), .slice a1 r1.length c1, .slice (adv a c P2) (n - P2) (c - P2), .slice a2 r2.length c2] rfl rfl ((show Below Y.heap.size Y _ from by exact blw).block _ l6 |>.trans K6.out) size22 rfl (by simp [Value.oneCell']) ?_; intro wS hS hSo hSz hSb; have hSame : Same Y [w.heap.size] wS := ⟨Nat.le_trans (show Below Y.heap.size Y w5 from by exact blw).size (Nat.le_of_eq hSz.symm), fun k hk hx => (hSo k (by simpa using hx)).trans ((show Below Y.heap.size Y w5 from by exact blw).block k hk)⟩; (try dsimp only [Act.put]))) | (go_wp2_with (first | (go_at_call 99; (with_reducible refine (HM1.out _ (by exact blw)).mono ?_); rintro e w4 ⟨rfl, hb4⟩; have h4c := bc hb4; have h4f := bf hb4; have h4z := hb4.size; try simp only [World.size_alloc, World.size_drew] at h4z) | (go_at_call 99; (with_reducible refine (HM2.out _ (by exact blw)).mono ?_); rintro e w5 ⟨rfl, hb5⟩; have h5c := bc hb5; have h5f := bf hb5; have h5z := hb5.size; try simp only [World.size_alloc, World.size_drew] at h5z) | (go_at_call 73; (with_reducible refine (HIN.out _ (by first | rfl | omega) _).mono ?_); rintro e w_ ⟨rfl, rfl⟩)))); refine HK_.out _ _ (wld_ofA) ?_; clear HK_)
            (refine tree_run gtA (by rfl) (by rfl) (fun K_ hK_ => ?_); have HK_ := Lib.hid hK_; clear hK_; (first | ((refine wpStoreO 104 _ _ rfl w.heap.size _ #[.int .i64 6, .int .i64 0, .int .i64 2, .int .i64 2, .slice a n c, .slice (adv a c P3) (n - P3) (c - P3), .slice (adv a c P1) (n - P1) (c - P1), .slice a1 r1.length c1, .slice (adv a c P2) (n - P2) (c - P2), .slice a2 r2.length c2] rfl rfl ((show Below Y.heap.size Y _ from by exact blw).block _ l6 |>.trans K6.out) size22 rfl (by simp [Value.oneCell']) ?_; intro wS hS hSo hSz hSb; have hSame : Same Y [w.heap.size] wS := ⟨Nat.le_trans (show Below Y.heap.size Y w5 from by exact blw).size (Nat.le_of_eq hSz.symm), fun k hk hx => (hSo k (by simpa using hx)).trans ((show Below Y.heap.size Y w5 from by exact blw).block k hk)⟩; (try dsimp only [Act.put]))) | (go_wp2_with (first | (go_at_call 99; (with_reducible refine (HM1.out _ (by exact blw)).mono ?_); rintro e w4 ⟨rfl, hb4⟩; have h4c := bc hb4; have h4f := bf hb4; have h4z := hb4.size; try simp only [World.size_alloc, World.size_drew] at h4z) | (go_at_call 99; (with_reducible refine (HM2.out _ (by exact blw)).mono ?_); rintro e w5 ⟨rfl, hb5⟩; have h5c := bc hb5; have h5f := bf hb5; have h5z := hb5.size; try simp only [World.size_alloc, World.size_drew] at h5z) | (go_at_call 73; (with_reducible refine (HIN.out _ (by first | rfl | omega) _).mono ?_); rintro e w_ ⟨rfl, rfl⟩)))); refine HK_.out _ _ (wld_ofA) ?_; clear HK_)
            (refine tree_quiet gtA (by rfl) (by rfl) (fun K_ hK_ => ?_); go_big_quiet_op; refine hK_ _ ?_; clear hK_ K_)
            (refine tree_quiet gtA (by rfl) (by rfl) (fun K_ hK_ => ?_); go_big_quiet_op; refine hK_ _ ?_; clear hK_ K_)
            (refine tree_run gtA (by rfl) (by rfl) (fun K_ hK_ => ?_); have HK_ := Lib.hid hK_; clear hK_; (first | ((refine wpStoreO 104 _ _ rfl w.heap.size _ #[.int .i64 6, .int .i64 0, .int .i64 2, .int .i64 2, .slice a n c, .slice (adv a c P3) (n - P3) (c - P3), .slice (adv a c P1) (n - P1) (c - P1), .slice a1 r1.length c1, .slice (adv a c P2) (n - P2) (c - P2), .slice a2 r2.length c2] rfl rfl ((show Below Y.heap.size Y _ from by exact blw).block _ l6 |>.trans K6.out) size22 rfl (by simp [Value.oneCell']) ?_; intro wS hS hSo hSz hSb; have hSame : Same Y [w.heap.size] wS := ⟨Nat.le_trans (show Below Y.heap.size Y w5 from by exact blw).size (Nat.le_of_eq hSz.symm), fun k hk hx => (hSo k (by simpa using hx)).trans ((show Below Y.heap.size Y w5 from by exact blw).block k hk)⟩; (try dsimp only [Act.put]))) | (go_wp2_with (first | (go_at_call 99; (with_reducible refine (HM1.out _ (by exact blw)).mono ?_); rintro e w4 ⟨rfl, hb4⟩; have h4c := bc hb4; have h4f := bf hb4; have h4z := hb4.size; try simp only [World.size_alloc, World.size_drew] at h4z) | (go_at_call 99; (with_reducible refine (HM2.out _ (by exact blw)).mono ?_); rintro e w5 ⟨rfl, hb5⟩; have h5c := bc hb5; have h5f := bf hb5; have h5z := hb5.size; try simp only [World.size_alloc, World.size_drew] at h5z) | (go_at_call 73; (with_reducible refine (HIN.out _ (by first | rfl | omega) _).mono ?_); rintro e w_ ⟨rfl, rfl⟩)))); refine HK_.out _ _ (wld_ofA) ?_; clear HK_)
            (refine tree_quiet gtA (by rfl) (by rfl) (fun K_ hK_ => ?_); go_big_quiet_op; refine hK_ _ ?_; clear hK_ K_)
            (refine tree_run gtA (by rfl) (by rfl) (fun K_ hK_ => ?_); have HK_ := Lib.hid hK_; clear hK_; (first | ((refine wpStoreO 104 _ _ rfl w.heap.size _ #[.int .i64 6, .int .i64 0, .int .i64 2, .int .i64 2, .slice a n c, .slice (adv a c P3) (n - P3) (c - P3), .slice (adv a c P1) (n - P1) (c - P1), .slice a1 r1.length c1, .slice (adv a c P2) (n - P2) (c - P2), .slice a2 r2.length c2] rfl rfl ((show Below Y.heap.size Y _ from by exact blw).block _ l6 |>.trans K6.out) size22 rfl (by simp [Value.oneCell']) ?_; intro wS hS hSo hSz hSb; have hSame : Same Y [w.heap.size] wS := ⟨Nat.le_trans (show Below Y.heap.size Y w5 from by exact blw).size (Nat.le_of_eq hSz.symm), fun k hk hx => (hSo k (by simpa using hx)).trans ((show Below Y.heap.size Y w5 from by exact blw).block k hk)⟩; (try dsimp only [Act.put]))) | (go_wp2_with (first | (go_at_call 99; (with_reducible refine (HM1.out _ (by exact blw)).mono ?_); rintro e w4 ⟨rfl, hb4⟩; have h4c := bc hb4; have h4f := bf hb4; have h4z := hb4.size; try simp only [World.size_alloc, World.size_drew] at h4z) | (go_at_call 99; (with_reducible refine (HM2.out _ (by exact blw)).mono ?_); rintro e w5 ⟨rfl, hb5⟩; have h5c := bc hb5; have h5f := bf hb5; have h5z := hb5.size; try simp only [World.size_alloc, World.size_drew] at h5z) | (go_at_call 73; (with_reducible refine (HIN.out _ (by first | rfl | omega) _).mono ?_); rintro e w_ ⟨rfl, rfl⟩)))); refine HK_.out _ _ (wld_ofA) ?_; clear HK_)
            (refine tree_quiet gtA (by rfl) (by rfl) (fun K_ hK_ => ?_); go_big_quiet_op; refine hK_ _ ?_; clear hK_ K_)
            refine tree_nil ?_
            clear hG_
            have hbl : Below Y.heap.size Y w5 := by exact blw
            have HBL := Lib.hid hbl
            clear hbl
            go_wp2_with fail
            have r6 := fun o => cell_of_heap hS o
            refine bodyPost_ret (v := .tuple #[.agg #[.int .i64 6, .int .i64 0, .int .i64 2, .int .i64 2, .slice a n c, .slice (adv a c P3) (n - P3) (c - P3), .slice (adv a c P1) (n - P1) (c - P1), .slice a1 r1.length c1, .slice (adv a c P2) (n - P2) (c - P2), .slice a2 r2.length c2], .bool true]) (by simp [results, Try.results54, go_sem, r6]) rfl ?_
            exact ⟨.inl ⟨r1, r2, a1, c1, a2, c2, ⟨by rw [HL.out]; omega, by rw [HL.out, ← HN1.out]; exact hle1, by rw [HL.out, ← HN2.out]; exact hle2, by rw [HL.out, ← HN3.out]; exact hle3, by rw [← HN1.out]; exact HK1.out, by rw [← HN2.out]; exact HK2.out, by rw [HL.out, ← HN1.out, ← HN2.out, ← HN3.out, ← HE1.out, ← HE2.out]; exact hfar⟩, by rw [← HN1.out, ← HN2.out, ← HN3.out]; rfl, (has_farS (HASY1.out.below HBL.out) ((HBL.out.block _ l6).trans K6.out) (noInt _ _ _ _ _ _ _ _ _ _ _ _ _ _ _ _ _ _ _ _ _ _) hSo), (has_farS (HASY2.out.below HBL.out) ((HBL.out.block _ l6).trans K6.out) (noInt _ _ _ _ _ _ _ _ _ _ _ _ _ _ _ _ _ _ _ _ _ _) hSo)⟩, (HBY.out.trans (HBL.out.mono HBY.out.size)).trans hSb⟩
          · have hd : decide ((0 : Int) ≤ 2 * ((m1 : Int) + (m2 : Int)) ∧ (0 : Int) ≤ 2 ∧ 2 * ((m1 : Int) + (m2 : Int)) ≤ ((n - P3 : Nat) : Int) ∧ 2 ≤ ((n - P3 : Nat) : Int) - 2 * ((m1 : Int) + (m2 : Int))) = false := by simp only [decide_eq_true_eq, decide_eq_false_iff_not]; omega
            have HIN := Lib.hid (fun (z : Int) (hz : z = 2 * ((m1 : Int) + (m2 : Int))) (Z : World) => show Calls Try.prog 73 #[.int .i64 ((n - P3 : Nat) : Int), .int .i64 z, .int .i64 2] Z fun e w' => e = .returned (.bool false) ∧ Z = w' from by have hin := in_any (n - P3) (2 * ((m1 : Int) + (m2 : Int))) 2 Z (by omega) (by omega) (by decide); rw [hd] at hin; subst hz; exact hin)
            clear hd
            refine wp_region_tree (.step 0 (.step 1 (.step 2 (.step 3 (.step 4 (.step 5 (.step 6 (.step 7 (.step 8 (.step 9 (.step 10 (.step 11 (.step 13 (.step 14 (.step 18 (.step 19 (.step 12 (.step 15 (.step 16 (.step 17 (.step 20 (.step 21 (.step 22 (.step 23 .nil)))))))))))))))))))))))) (by kernel_rfl) (by kernel_rfl) (by kernel_rfl) (by kernel_rfl) (by intro _ _ d_ _ _ h_; cases d_ <;> first | exact h_ | (dsimp +zetaDelta only at h_ ⊢; exact h_)) (fun w' => ∃ p : Wld Y [w.heap.size], w' = p.val) (wld_start _ _) ?_
            have hG_ := @wldC1 Y w.heap.size
            (refine tree_quiet gtA (by rfl) (by rfl) (fun K_ hK_ => ?_); go_big_quiet_op; refine hK_ _ ?_; clear hK_ K_)
            (refine tree_quiet gtA (by rfl) (by rfl) (fun K_ hK_ => ?_); go_big_quiet_op; refine hK_ _ ?_; clear hK_ K_)
            (refine tree_quiet gtA (by rfl) (by rfl) (fun K_ hK_ => ?_); go_big_quiet_op; refine hK_ _ ?_; clear hK_ K_)
            (refine tree_quiet gtA (by rfl) (by rfl) (fun K_ hK_ => ?_); go_big_quiet_op; refine hK_ _ ?_; clear hK_ K_)
            (refine tree_quiet gtA (by rfl) (by rfl) (fun K_ hK_ => ?_); go_big_quiet_op; refine hK_ _ ?_; clear hK_ K_)
            (refine tree_quiet gtA (by rfl) (by rfl) (fun K_ hK_ => ?_); go_big_quiet_op; refine hK_ _ ?_; clear hK_ K_)
            (refine tree_quiet gtA (by rfl) (by rfl) (fun K_ hK_ => ?_); go_big_quiet_op; refine hK_ _ ?_; clear hK_ K_)
            (refine tree_quiet gtA (by rfl) (by rfl) (fun K_ hK_ => ?_); go_big_quiet_op; refine hK_ _ ?_; clear hK_ K_)
            (refine tree_quiet gtA (by rfl) (by rfl) (fun K_ hK_ => ?_); go_big_quiet_op; refine hK_ _ ?_; clear hK_ K_)
            (refine tree_quiet gtA (by rfl) (by rfl) (fun K_ hK_ => ?_); go_big_quiet_op; refine hK_ _ ?_; clear hK_ K_)
            (refine tree_quiet gtA (by rfl) (by rfl) (fun K_ hK_ => ?_); go_big_quiet_op; refine hK_ _ ?_; clear hK_ K_)
            (refine tree_quiet gtA (by rfl) (by rfl) (fun K_ hK_ => ?_); go_big_quiet_op; refine hK_ _ ?_; clear hK_ K_)
            (refine tree_quiet gtA (by rfl) (by rfl) (fun K_ hK_ => ?_); go_big_quiet_op; refine hK_ _ ?_; clear hK_ K_)
            (refine tree_quiet gtA (by rfl) (by rfl) (fun K_ hK_ => ?_); go_big_quiet_op; refine hK_ _ ?_; clear hK_ K_)
            (refine tree_quiet gtA (by rfl) (by rfl) (fun K_ hK_ => ?_); go_big_quiet_op; refine hK_ _ ?_; clear hK_ K_)
            (refine tree_quiet gtA (by rfl) (by rfl) (fun K_ hK_ => ?_); go_big_quiet_op; refine hK_ _ ?_; clear hK_ K_)
            (refine tree_run gtA (by rfl) (by rfl) (fun K_ hK_ => ?_); have HK_ := Lib.hid hK_; clear hK_; (first | ((refine wpStoreO 104 _ _ rfl w.heap.size _ #[.int .i64 6, .int .i64 0, .int .i64 2, .int .i64 2, .slice a n c, .slice (adv a c P3) (n - P3) (c - P3), .slice (adv a c P1) (n - P1) (c - P1), .slice a1 r1.length c1, .slice (adv a c P2) (n - P2) (c - P2), .slice a2 r2.length c2] rfl rfl ((show Below Y.heap.size Y _ from by exact blw).block _ l6 |>.trans K6.out) size22 rfl (by simp [Value.oneCell']) ?_; intro wS hS hSo hSz hSb; have hSame : Same Y [w.heap.size] wS := ⟨Nat.le_trans (show Below Y.heap.size Y w5 from by exact blw).size (Nat.le_of_eq hSz.symm), fun k hk hx => (hSo k (by simpa using hx)).trans ((show Below Y.heap.size Y w5 from by exact blw).block k hk)⟩; (try dsimp only [Act.put]))) | (go_wp2_with (first | (go_at_call 99; (with_reducible refine (HM1.out _ (by exact blw)).mono ?_); rintro e w4 ⟨rfl, hb4⟩; have h4c := bc hb4; have h4f := bf hb4; have h4z := hb4.size; try simp only [World.size_alloc, World.size_drew] at h4z) | (go_at_call 99; (with_reducible refine (HM2.out _ (by exact blw)).mono ?_); rintro e w5 ⟨rfl, hb5⟩; have h5c := bc hb5; have h5f := bf hb5; have h5z := hb5.size; try simp only [World.size_alloc, World.size_drew] at h5z) | (go_at_call 73; (with_reducible refine (HIN.out _ (by first | rfl | omega) _).mono ?_); rintro e w_ ⟨rfl, rfl⟩)))); refine HK_.out _ _ (wld_ofA) ?_; clear HK_)
            (refine tree_run gtA (by rfl) (by rfl) (fun K_ hK_ => ?_); have HK_ := Lib.hid hK_; clear hK_; (first | ((refine wpStoreO 104 _ _ rfl w.heap.size _ #[.int .i64 6, .int .i64 0, .int .i64 2, .int .i64 2, .slice a n c, .slice (adv a c P3) (n - P3) (c - P3), .slice (adv a c P1) (n - P1) (c - P1), .slice a1 r1.length c1, .slice (adv a c P2) (n - P2) (c - P2), .slice a2 r2.length c2] rfl rfl ((show Below Y.heap.size Y _ from by exact blw).block _ l6 |>.trans K6.out) size22 rfl (by simp [Value.oneCell']) ?_; intro wS hS hSo hSz hSb; have hSame : Same Y [w.heap.size] wS := ⟨Nat.le_trans (show Below Y.heap.size Y w5 from by exact blw).size (Nat.le_of_eq hSz.symm), fun k hk hx => (hSo k (by simpa using hx)).trans ((show Below Y.heap.size Y w5 from by exact blw).block k hk)⟩; (try dsimp only [Act.put]))) | (go_wp2_with (first | (go_at_call 99; (with_reducible refine (HM1.out _ (by exact blw)).mono ?_); rintro e w4 ⟨rfl, hb4⟩; have h4c := bc hb4; have h4f := bf hb4; have h4z := hb4.size; try simp only [World.size_alloc, World.size_drew] at h4z) | (go_at_call 99; (with_reducible refine (HM2.out _ (by exact blw)).mono ?_); rintro e w5 ⟨rfl, hb5⟩; have h5c := bc hb5; have h5f := bf hb5; have h5z := hb5.size; try simp only [World.size_alloc, World.size_drew] at h5z) | (go_at_call 73; (with_reducible refine (HIN.out _ (by first | rfl | omega) _).mono ?_); rintro e w_ ⟨rfl, rfl⟩)))); refine HK_.out _ _ (wld_ofA) ?_; clear HK_)
            (refine tree_quiet gtA (by rfl) (by rfl) (fun K_ hK_ => ?_); go_big_quiet_op; refine hK_ _ ?_; clear hK_ K_)
            (refine tree_quiet gtA (by rfl) (by rfl) (fun K_ hK_ => ?_); go_big_quiet_op; refine hK_ _ ?_; clear hK_ K_)
            (refine tree_run gtA (by rfl) (by rfl) (fun K_ hK_ => ?_); have HK_ := Lib.hid hK_; clear hK_; (first | ((refine wpStoreO 104 _ _ rfl w.heap.size _ #[.int .i64 6, .int .i64 0, .int .i64 2, .int .i64 2, .slice a n c, .slice (adv a c P3) (n - P3) (c - P3), .slice (adv a c P1) (n - P1) (c - P1), .slice a1 r1.length c1, .slice (adv a c P2) (n - P2) (c - P2), .slice a2 r2.length c2] rfl rfl ((show Below Y.heap.size Y _ from by exact blw).block _ l6 |>.trans K6.out) size22 rfl (by simp [Value.oneCell']) ?_; intro wS hS hSo hSz hSb; have hSame : Same Y [w.heap.size] wS := ⟨Nat.le_trans (show Below Y.heap.size Y w5 from by exact blw).size (Nat.le_of_eq hSz.symm), fun k hk hx => (hSo k (by simpa using hx)).trans ((show Below Y.heap.size Y w5 from by exact blw).block k hk)⟩; (try dsimp only [Act.put]))) | (go_wp2_with (first | (go_at_call 99; (with_reducible refine (HM1.out _ (by exact blw)).mono ?_); rintro e w4 ⟨rfl, hb4⟩; have h4c := bc hb4; have h4f := bf hb4; have h4z := hb4.size; try simp only [World.size_alloc, World.size_drew] at h4z) | (go_at_call 99; (with_reducible refine (HM2.out _ (by exact blw)).mono ?_); rintro e w5 ⟨rfl, hb5⟩; have h5c := bc hb5; have h5f := bf hb5; have h5z := hb5.size; try simp only [World.size_alloc, World.size_drew] at h5z) | (go_at_call 73; (with_reducible refine (HIN.out _ (by first | rfl | omega) _).mono ?_); rintro e w_ ⟨rfl, rfl⟩)))); refine HK_.out _ _ (wld_ofA) ?_; clear HK_)
            (refine tree_quiet gtA (by rfl) (by rfl) (fun K_ hK_ => ?_); go_big_quiet_op; refine hK_ _ ?_; clear hK_ K_)
            (refine tree_run gtA (by rfl) (by rfl) (fun K_ hK_ => ?_); have HK_ := Lib.hid hK_; clear hK_; (first | ((refine wpStoreO 104 _ _ rfl w.heap.size _ #[.int .i64 6, .int .i64 0, .int .i64 2, .int .i64 2, .slice a n c, .slice (adv a c P3) (n - P3) (c - P3), .slice (adv a c P1) (n - P1) (c - P1), .slice a1 r1.length c1, .slice (adv a c P2) (n - P2) (c - P2), .slice a2 r2.length c2] rfl rfl ((show Below Y.heap.size Y _ from by exact blw).block _ l6 |>.trans K6.out) size22 rfl (by simp [Value.oneCell']) ?_; intro wS hS hSo hSz hSb; have hSame : Same Y [w.heap.size] wS := ⟨Nat.le_trans (show Below Y.heap.size Y w5 from by exact blw).size (Nat.le_of_eq hSz.symm), fun k hk hx => (hSo k (by simpa using hx)).trans ((show Below Y.heap.size Y w5 from by exact blw).block k hk)⟩; (try dsimp only [Act.put]))) | (go_wp2_with (first | (go_at_call 99; (with_reducible refine (HM1.out _ (by exact blw)).mono ?_); rintro e w4 ⟨rfl, hb4⟩; have h4c := bc hb4; have h4f := bf hb4; have h4z := hb4.size; try simp only [World.size_alloc, World.size_drew] at h4z) | (go_at_call 99; (with_reducible refine (HM2.out _ (by exact blw)).mono ?_); rintro e w5 ⟨rfl, hb5⟩; have h5c := bc hb5; have h5f := bf hb5; have h5z := hb5.size; try simp only [World.size_alloc, World.size_drew] at h5z) | (go_at_call 73; (with_reducible refine (HIN.out _ (by first | rfl | omega) _).mono ?_); rintro e w_ ⟨rfl, rfl⟩)))); refine HK_.out _ _ (wld_ofA) ?_; clear HK_)
            (refine tree_quiet gtA (by rfl) (by rfl) (fun K_ hK_ => ?_); go_big_quiet_op; refine hK_ _ ?_; clear hK_ K_)
            refine tree_nil ?_
            clear hG_
            have hbl : Below Y.heap.size Y w5 := by exact blw
            have HBL := Lib.hid hbl
            clear hbl
            go_wp2_with fail
            have r6 := fun o => cell_of_heap hS o
            refine bodyPost_ret (v := .tuple #[.agg #[.int .i64 6, .int .i64 0, .int .i64 2, .int .i64 2, .slice a n c, .slice (adv a c P3) (n - P3) (c - P3), .slice (adv a c P1) (n - P1) (c - P1), .slice a1 r1.length c1, .slice (adv a c P2) (n - P2) (c - P2), .slice a2 r2.length c2], .bool false]) (by simp [results, Try.results54, go_sem, r6]) rfl ?_
            exact ⟨.inr ⟨fun q1 q2 ho => by
              have e1 := ho.lk1
              have e2 := ho.lk2
              have e3 := ho.far
              rw [← HN1.out] at e1 e3
              rw [← HN2.out] at e2 e3
              obtain rfl := e1.det HK1.out
              obtain rfl := e2.det HK2.out
              rw [← HE1.out, ← HE2.out, ← HN3.out, HL.out] at e3
              exact hfar e3, noT⟩, (HBY.out.trans (HBL.out.mono HBY.out.size)).trans hSb⟩
end Go.Proofs.Ytbicnkopmamnpaa
end
