
/- The walk of WholeEnds. WholeEnds returns true for every line and every verb, and changes nothing: a machine that takes all of a line as its row, and does a verb at its end, lets each glyph stand where the verb has it. Condition: the table of verbs lies in memory. -/
import Derived.Test.YtlhnfpkenlenjaaDoorJ19
import Derived.Test.YtlhnfpkenlenjaaDoorJ18
import Derived.Test.YtlhnfpkenlenjaaDoorJ17
import Derived.Test.YtlhnfpkenlenjaaDoorJ16
import Derived.Test.YtlhnfpkenlenjaaDoorTie
import Derived.Test.YtlhnfpkenlenjaaDoorCards
import Derived.SevenTiedAt
namespace Go.Proofs.YtlhnfpkenlenjaaDoor
open Go.RowKit Go.Lib

theorem fitE (k : Nat) (h : k < 16) : FitL (tabR ((bytesE k).drop (num (bytesE k) 4 4)) rsE).1 (tabR ((bytesE k).drop (num (bytesE k) 4 4)) rsE).2 := (okE k h).lk.fit (by decide) (.inl rfl)
theorem ordV_isOrd {k n : Nat} (h : okV (k : Nat) (n : Nat)) : IsOrd (ordV k n) ∧ (ordV k n).length = n := by
  obtain ⟨h1, h2, h3⟩ := h
  rw [Int.toNat_natCast] at h3
  have g1 : 1 ≤ k := by omega
  have g2 : k < 16 := by omega
  have g3 : (preV k).length + (sufV k).length ≤ n := by omega
  have hl := ordV_length k n g2 g1 g3
  refine ⟨⟨fun z hz => ?_, ?_⟩, hl⟩
  · obtain ⟨i, hi⟩ := List.getElem?_of_mem hz
    have hin : i < n := by rw [← hl]; exact (List.getElem?_eq_some_iff.1 hi).1
    rw [ordV_get k n i g2 g1 g3 hin] at hi
    injection hi with hi
    rw [hl, ← hi]
    exact eV_in k g1 g2 n i g3 hin
  · refine List.pairwise_iff_getElem.2 fun i j hi hj hij e => ?_
    have e1 := ordV_get k n i g2 g1 g3 (by omega)
    have e2 := ordV_get k n j g2 g1 g3 (by omega)
    rw [List.getElem?_eq_getElem hi] at e1
    rw [List.getElem?_eq_getElem hj] at e2
    injection e1 with e1
    injection e2 with e2
    have := eV_inj k g1 g2 n i j g3 (by omega) (by omega) (by rw [← e1, ← e2, e])
    omega
theorem endYes {k n : Nat} {ids : List Int} (hn : ids.length = n) (h : okV (k : Nat) (n : Nat)) (i : Nat) (hi : i < n) : ∃ (q : Nat) (z : Int), (ordV k n)[i]? = some (q : Int) ∧ q < n ∧ ids[q]? = some z ∧ (lineR (newG ids) 0 n k)[i]? = some (z, (q : Int)) := by
  obtain ⟨ho, hl⟩ := ordV_isOrd h
  obtain ⟨z, hz⟩ : ∃ z, (ordV k n)[i]? = some z := ⟨_, List.getElem?_eq_getElem (by omega)⟩
  have hr := ho.1 z (List.mem_of_getElem? hz)
  obtain ⟨q, rfl⟩ : ∃ q : Nat, z = (q : Int) := ⟨z.toNat, by omega⟩
  have hq : q < n := by omega
  obtain ⟨y, hy⟩ : ∃ y, ids[q]? = some y := ⟨_, List.getElem?_eq_getElem (by omega)⟩
  refine ⟨q, y, hz, hq, hy, ?_⟩
  unfold lineR
  have h' : okV ((k : Nat) : Int) (((n : Nat) : Int) - ((0 : Nat) : Int)) := by simpa using h
  rw [if_pos h', Nat.sub_zero]
  unfold ordG
  have hok : okO (newG ids) ((0 : Nat) : Int) (ordV k n) = true := by
    unfold okO
    rw [newG_length, hn, hl]
    simp [ho]
  rw [if_pos hok]
  have hg := (putO_get (newG ids) 0 (ordV k n) ho (by rw [newG_length]; omega) i (by rw [newG_length]; omega)).1
  show (putO (newG ids) ((0 : Nat) : Int).toNat (ordV k n) (ordV k n).length)[i]? = _
  rw [show ((0 : Nat) : Int).toNat = 0 from rfl, hg]
  have hs : srcO 0 (ordV k n) i = q := by
    unfold srcO
    rw [if_neg (by omega), if_pos (by omega), Nat.sub_zero, List.getD_eq_getElem?_getD, hz]
    simp
  rw [hs, newG_get, hy]
  rfl
theorem endNo {k n : Nat} {ids : List Int} (h : ¬ okV (k : Nat) (n : Nat)) : lineR (newG ids) 0 n k = newG ids := by
  unfold lineR
  rw [if_neg]
  simpa using h
theorem writeE (k : Nat) (hk : k < 16) (aR aE : Option Addr) (rv : List Value) (cR cE : Nat) (w : World) (h : PlanHas w (planE k) none aR rv aE) :
    Calls Tryd.prog 10 #[.agg #[.slice none 0 0, .slice aR 2 cR, .slice aE 3 cE, .int .u8 0], .int .i64 0, .int .i64 0] w fun e w' => ∃ a' c', e = .returned (.slice a' 50 c') ∧ w'.ownsRow w.heap.size 5 1 (.slice a' 50 c') 50 (bytesV (bytesE k)) ∧ 50 ≤ c' ∧ c' ≤ maxLen ∧ Below w.heap.size w w' := by
  have := write_any (planE k) 0 0 0 0 rfl rfl none aR aE rv 0 cR cE w h (show 0 ≤ 1000 by decide) (show 2 ≤ 1000 by decide) (show 3 ≤ 1000 by decide) (by decide) (by decide) (by
    intro e he
    simp only [planE, List.mem_cons, List.not_mem_nil, or_false] at he
    rcases he with rfl | rfl | rfl <;> · unfold wfI; dsimp only; omega)
  rw [planE_bytes k hk] at this
  refine this.mono ?_
  rintro e w' ⟨a', c', h1, h2, h3, h4, _, h6⟩
  exact ⟨a', c', h1, h2, h3, h4, h6⟩
theorem IRow.keepR {B B0 g5 g6 : Nat} {l : List Int} {v : Value} {bk : Option Nat} {w w' : World} (h : IRow B l v w) (hk : KeepC B0 (ownR bk g5 g6) w w') (h5 : w.heap.size ≤ g5) (h6 : w.heap.size ≤ g6) : IRow B l v w' := by
  obtain ⟨a, c, rfl, h2⟩ := h
  refine ⟨a, c, rfl, h2.1, ?_⟩
  rcases h2.2 with h3 | ⟨b, cap, cur, hv, hg, hh, r⟩
  · exact .inl h3
  · refine .inr ⟨b, cap, cur, hv, hg, ?_, r⟩
    have hb := (Array.getElem?_eq_some_iff.1 hh).1
    rw [hk.kept b _ _ _ hh (by
      rintro (⟨h, _⟩ | ⟨_, h⟩)
      · exact absurd h (by decide)
      · omega)]
    exact hh
theorem has_nilE (w : World) : Has w none [] := by
  intro j u h
  simp at h
theorem vorder_row (k n : Nat) (w : World) (hV : VerbsIn w) (hn : n ≤ 1000000) (h : okV (k : Nat) (n : Nat)) :
    Calls Tryd.prog 23 #[.int .i64 (k : Nat), .int .i64 (n : Nat)] w fun e w' => ∃ a c, e = .returned (.tuple #[.slice a n c, .bool true]) ∧ IRow w.heap.size (ordV k n) (.slice a n c) w' ∧ Below w.heap.size w w' := by
  refine (vorder_any (k : Nat) (n : Nat) w hV (by omega) (by omega)).mono ?_
  rintro e w' (⟨_, x, rfl, hI, hb⟩ | ⟨hno, _⟩)
  · rw [Int.toNat_natCast, Int.toNat_natCast] at hI
    obtain ⟨a, c, rfl, h2⟩ := id hI
    rw [(ordV_isOrd h).2] at hI ⊢
    exact ⟨a, c, rfl, hI, hb⟩
  · exact absurd h hno
set_option maxRecDepth 100000 in
set_option maxHeartbeats 6400000 in
theorem wholeEnds_walk (aI : Option Addr) (nI cI : Nat) (ids : List Int) (y : Int) (w : World) (hi : Has w aI (iv ids)) (hil : ids.length = nI) (hiw : ∀ z ∈ ids, -9223372036854775808 ≤ z ∧ z ≤ 9223372036854775807) (hy : 0 ≤ y ∧ y ≤ 255) (hV : VerbsIn w) :
    Calls Tryd.prog 7 #[.slice aI nI cI, .int .u8 y] w fun e w' => e = .returned (.bool true) ∧ Below w.heap.size w w' := by
  have hAC := allocC
  have hAF := allocF
  obtain ⟨yn, rfl⟩ : ∃ yn : Nat, y = yn := ⟨y.toNat, by omega⟩
  obtain ⟨k, hk⟩ : ∃ k : Nat, k = yn % 16 := ⟨_, rfl⟩
  have hk16 : k < 16 := by omega
  have hkz : (yn : Int) % 16 = (k : Int) := by omega
  clear hk
  have HV := Lib.hid hV
  have HI := Lib.hid hi
  have HIL := Lib.hid hil
  have HIW := Lib.hid hiw
  clear hi hil hiw hV
  go_enter Tryd.func7, Tryd.ntmps7
  go_wp2_with fail
  obtain ⟨w1, h1⟩ : ∃ w1, w1 = w.alloc (Obj.cells #[.int .u8 2, .int .u8 1, .int .u8 1, .int .u8 1] 5) := ⟨_, rfl⟩
  obtain ⟨w2, h2⟩ : ∃ w2, w2 = w1.alloc (Obj.cells #[.int .u8 2, .int .u8 0, .int .u8 0, .int .u8 0] 5) := ⟨_, rfl⟩
  obtain ⟨w3, h3⟩ : ∃ w3, w3 = w2.alloc (Obj.cells #[.slice (some ⟨w.heap.size, 0, none⟩) 4 4, .slice (some ⟨w1.heap.size, 0, none⟩) 4 4] 22) := ⟨_, rfl⟩
  obtain ⟨w4, h4⟩ : ∃ w4, w4 = w3.alloc (Obj.cells #[.int .i64 1, .int .i64 8192, .int .i64 0, .int .i64 0, .int .i64 1, .int .i64 40960, .int .i64 0, .int .i64 0, .int .i64 1, .int .i64 (k : Nat), .int .i64 0, .int .i64 0] 55) := ⟨_, rfl⟩
  have z1 : w1.heap.size = w.heap.size + 1 := by rw [h1]; simp
  have z2 : w2.heap.size = w1.heap.size + 1 := by rw [h2]; simp
  have z3 : w3.heap.size = w2.heap.size + 1 := by rw [h3]; simp
  have b1 : Below w.heap.size w w1 := by rw [h1]; exact balloc (brefl w) _
  have b2 : Below w1.heap.size w1 w2 := by rw [h2]; exact balloc (brefl w1) _
  have b3 : Below w2.heap.size w2 w3 := by rw [h3]; exact balloc (brefl w2) _
  have b4 : Below w3.heap.size w3 w4 := by rw [h4]; exact balloc (brefl w3) _
  have b24 : Below w2.heap.size w2 w4 := b3.trans (b4.mono b3.size)
  have b14 : Below w1.heap.size w1 w4 := b2.trans (b24.mono b2.size)
  have HP := Lib.hid (show PlanHas w4 (planE k) none (some ⟨w2.heap.size, 0, none⟩) [.slice (some ⟨w.heap.size, 0, none⟩) 4 4, .slice (some ⟨w1.heap.size, 0, none⟩) 4 4] (some ⟨w3.heap.size, 0, none⟩) from ⟨has_nilE w4, by
      have := has_alloc w2 #[.slice (some ⟨w.heap.size, 0, none⟩) 4 4, .slice (some ⟨w1.heap.size, 0, none⟩) 4 4] 22
      rw [← h3] at this
      exact this.below b4, rfl, by
      have g2 := has_alloc w #[.int .u8 2, .int .u8 1, .int .u8 1, .int .u8 1] 5
      have g3 := has_alloc w1 #[.int .u8 2, .int .u8 0, .int .u8 0, .int .u8 0] 5
      rw [← h1] at g2
      rw [← h2] at g3
      intro i r hr
      match i, hr with
      | 0, hr => simp [planE] at hr; subst hr; exact ⟨_, 4, rfl, g2.below b14⟩
      | 1, hr => simp [planE] at hr; subst hr; exact ⟨_, 4, rfl, g3.below b24⟩
      | n + 2, hr => simp [planE] at hr, by
      have := has_alloc w3 #[.int .i64 1, .int .i64 8192, .int .i64 0, .int .i64 0, .int .i64 1, .int .i64 40960, .int .i64 0, .int .i64 0, .int .i64 1, .int .i64 (k : Nat), .int .i64 0, .int .i64 0] 55
      rw [← h4] at this
      exact this⟩)
  have HB4 := Lib.hid (show Below w.heap.size w w4 from b1.trans (b14.mono b1.size))
  rw [← h1, ← h2, ← z1, ← z2, ← h3, ← z3, ← h4]
  clear h1 h2 h3 h4 b1 b2 b3 b4 b24 b14 z1 z2 z3
  have HW := Lib.hid (fun W hW => writeE k hk16 (some ⟨w2.heap.size, 0, none⟩) (some ⟨w3.heap.size, 0, none⟩) [.slice (some ⟨w.heap.size, 0, none⟩) 4 4, .slice (some ⟨w1.heap.size, 0, none⟩) 4 4] 2 3 W (HP.out.below hW))
  by_cases hbig : 60 < nI
  · have d1 : decide ((60 : Int) < (nI : Int)) = true := by simp; omega
    go_wp2_with (first
      | (go_at_call 10; (with_reducible refine (HW.out _ (by exact blw)).mono ?_); rintro e w6 ⟨a6, c6, rfl, ho6, k6, k66, hb6⟩; have HH6 := Lib.hid (has_of_owns ho6); have HB6 := Lib.hid (show Below w.heap.size w w6 from by have h5 := HB4.out; have h5z := h5.size; exact blw); clear ho6)
      | (go_at_call 11; (with_reducible refine (rread_some a6 50 c6 (bytesE k) 40 40 rfl rsE 2 w6 HH6.out rfl k6 k66 (by decide) (by decide) (okE k hk16)).mono ?_); rintro e w7 ⟨gt, rfl, hT, hb7⟩; have HB7 := Lib.hid (HB6.out.trans (hb7.mono HB6.out.size)); clear hT))
    go_ret
    exact ⟨rfl, HB7.out⟩
  have d1 : decide ((60 : Int) < (nI : Int)) = false := by simp; omega
  have HRUN := Lib.hid (fun (Bm gt gl : Nat) (a : Option Addr) (c : Nat) (W : World) (hT : TIs Bm gt (bytesE k) rsE 2 W) (hG : GIs w.heap.size gl a c (newG ids) W) (hV : VerbsIn W) (hB : w.heap.size ≤ W.heap.size) (hBl : w.heap.size ≤ gl) (hVB : 0 < w.heap.size) => rrun_new w.heap.size gt gl (bytesE k) rsE 2 a c ids W (Bm := Bm) hT (okE k hk16) (by show 50 ≤ 2000; decide) hG hV hB hBl hVB HIW.out (by rw [HIL.out]; omega))
  have hre := rearE hk16 (newG ids)
  rw [newG_length, HIL.out] at hre
  rw [hre.1, hre.2] at HRUN
  have hLn : (lineR (newG ids) 0 nI k).length = nI := by rw [lineR_length, newG_length, HIL.out]
  clear hre
  by_cases hok : okV (k : Nat) (nI : Nat)
  · go_wp2_with (first
      | (go_at_call 10; (with_reducible refine (HW.out _ (by exact blw)).mono ?_); rintro e w6 ⟨a6, c6, rfl, ho6, k6, k66, hb6⟩; have HH6 := Lib.hid (has_of_owns ho6); have HB6 := Lib.hid (show Below w.heap.size w w6 from by have h5 := HB4.out; have h5z := h5.size; exact blw); clear ho6)
      | (go_at_call 11; (with_reducible refine (rread_some a6 50 c6 (bytesE k) 40 40 rfl rsE 2 w6 HH6.out rfl k6 k66 (by decide) (by decide) (okE k hk16)).mono ?_); rintro e w7 ⟨gt, rfl, hT, hb7⟩; have HT := Lib.hid hT; have HB7 := Lib.hid (HB6.out.trans (hb7.mono HB6.out.size)); clear hT)
      | (go_at_call 13; (with_reducible refine (gnew_any aI nI cI ids w7 (HI.out.below HB7.out) HIL.out (by omega)).mono ?_); rintro e w8 ⟨gl, a8, c8, rfl, hG, hgl, hb8⟩; have HT8 := Lib.hid (HT.out.below hb8); have HB8 := Lib.hid (HB7.out.trans (hb8.mono HB7.out.size)); have hgl8 : w.heap.size ≤ gl := Nat.le_trans HB7.out.size hgl; have HG8 := Lib.hid (hG.mono HB7.out.size); clear hG hb8 hgl)
      | (go_at_call 23; (with_reducible refine (vorder_row k nI w8 (HV.out.below HB8.out) (by omega) hok).mono ?_); rintro e w9 ⟨ao, co, rfl, hI9, hb9⟩; have HI9 := Lib.hid hI9; have HT9 := Lib.hid (HT8.out.below hb9); have HB9 := Lib.hid (HB8.out.trans (hb9.mono HB8.out.size)); have HG9 := Lib.hid (HG8.out.below hb9); clear hb9)
      | (go_at_call 14; (with_reducible refine (HRUN.out _ _ _ _ _ w9 HT9.out HG9.out (HV.out.below HB9.out) HB9.out.size hgl8 HV.out.lt).mono ?_); rintro e w10 ⟨rfl, ⟨a10, c10, hG, _⟩, hk10⟩; have HG10 := Lib.hid hG; have HB10 := Lib.hid (HB9.out.trans hk10.below); have HI10 := Lib.hid (HI9.out.keepR hk10 (by omega) (by omega)); clear hG hk10)
      | (go_at_call 24; (with_reducible refine (glen_any _ _ _ _ _ _ HG10.out).mono ?_); rintro e w_ ⟨rfl, rfl⟩)
      | (go_at_call 18; (with_reducible refine (gglyphs_any w.heap.size gl a10 c10 _ w10 HG10.out (by simp only [hLn]; omega)).mono ?_); rintro e w11 ⟨a11, c11, rfl, ho, _, _, _, hb11⟩; have HH11 := Lib.hid (has_of_owns ho); have HI11 := Lib.hid (HI10.out.below hb11); have HB11 := Lib.hid (HB10.out.trans (hb11.mono HB10.out.size)); have hz11 := HB11.out.size; clear ho hb11))
    go_loopw [67] (fun i wr => ∃ j : Nat, j ≤ nI ∧ i = .int .i64 (j : Nat) ∧ Below w11.heap.size w11 wr) (fun i _ => nI - (RowKit.intOf i).toNat)
    case atStart => exact ⟨0, Nat.zero_le _, rfl, Below.refl _ _⟩
    case round =>
      obtain ⟨j, hj, rfl, hb⟩ := hrel
      have HB := Lib.hid hb
      have hzr := hb.size
      clear hb
      by_cases hlt : j < nI
      · obtain ⟨q, z, hoq, hq, hid, hL⟩ := endYes HIL.out hok j hlt
        obtain ⟨gi, oi, p, rfl, hgi, hp, hc1, hc2⟩ := gv_at (HH11.out.below HB.out) (k := j) (by rw [hLn]; omega)
        obtain rfl : p = (z, (q : Int)) := by rw [hL] at hp; injection hp with hp; exact hp.symm
        obtain ⟨ao', co', e1, hho, _, _, _⟩ := (HI11.out.below HB.out).slice
        obtain ⟨go, oo, zo, rfl, hgo, hzo, hco⟩ := iv_at hho (k := j) (by rw [(ordV_isOrd hok).2]; omega)
        obtain rfl : zo = (q : Int) := by rw [hoq] at hzo; injection hzo with hzo; exact hzo.symm
        injection e1 with e1 e2 e3
        clear e2
        subst e1 e3
        obtain ⟨gk, ok, y, rfl, hgk, hy, hcy⟩ := iv_at (HI.out.below (HB11.out.trans (HB.out.mono hz11))) (k := q) (by rw [HIL.out]; omega)
        obtain rfl : z = y := by rw [hid] at hy; injection hy
        simp only at hc1 hc2
        have d2 : decide ((j : Int) < (nI : Int)) = true := by simp; omega
        have d3 : decide ((q : Int) < 0) = false := by simp
        have d4 : decide ((nI : Int) ≤ (q : Int)) = false := by simp; omega
        have d5 : decide (nI ≤ q) = false := by simp; omega
        clear hoq hid hL hp hho hzo hy
        go_wp2_with fail
        obtain ⟨W, hW⟩ : ∃ W, W = wr.alloc (Obj.cells #[.int .i64 z, .int .i64 (q : Nat)] 53) := ⟨_, rfl⟩
        have hbW : Below wr.heap.size wr W := by rw [hW]; exact balloc (brefl wr) _
        have x11 : W.heap[wr.heap.size]? = some (.cells #[.int .i64 z, .int .i64 (q : Nat)] 53 (0, 0)) := by rw [hW, heap_push, if_pos rfl]
        rw [← hW]
        have q11 := cell_of_heap x11 0
        have q12 := cell_of_heap x11 1
        have l11 := (Array.getElem?_eq_some_iff.1 x11).1
        simp only [List.getElem?_toArray, List.getElem?_cons_zero, List.getElem?_cons_succ] at q11 q12
        have hcy' := (hbW.cell (p := ⟨gk, ok + q, none⟩) hgk).trans hcy
        have hgk' : gk < W.heap.size := Nat.lt_of_lt_of_le hgk hbW.size
        have HBS := Lib.hid (HB.out.trans (hbW.mono hzr))
        clear hW hbW x11 hcy hgk hc1 hc2
        refine wp_region_tree (.step 0 (.step 1 (.step 2 (.step 3 (.step 4 (.step 5 (.step 6 (.step 7 (.step 8 (.step 9 (.step 10 (.step 11 (.step 12 (.step 13 (.step 14 (.step 15 (.step 16 (.step 17 (.step 18 (.step 19 (.step 20 (.step 21 (.step 22 .nil))))))))))))))))))))))) (by kernel_rfl) (by kernel_rfl) (by kernel_rfl) (by kernel_rfl) (by intro _ _ d_ _ _ h_; cases d_ <;> first | exact h_ | (dsimp +zetaDelta only at h_ ⊢; exact h_)) (fun w' => ∃ p : Wld W [], w' = p.val) (wld_start _ _) ?_
        have hG_ := @wldC W
        (refine tree_quiet (by simp only [List.getElem?_toArray, List.getElem?_cons_succ, List.getElem?_cons_zero]; rfl) (by rfl) (by rfl) (fun K_ hK_ => ?_); go_big_quiet_op; refine hK_ _ ?_; clear hK_ K_)
        (refine tree_quiet (by simp only [List.getElem?_toArray, List.getElem?_cons_succ, List.getElem?_cons_zero]; rfl) (by rfl) (by rfl) (fun K_ hK_ => ?_); go_big_quiet_op; refine hK_ _ ?_; clear hK_ K_)
        (refine tree_quiet (by simp only [List.getElem?_toArray, List.getElem?_cons_succ, List.getElem?_cons_zero]; rfl) (by rfl) (by rfl) (fun K_ hK_ => ?_); go_big_quiet_op; refine hK_ _ ?_; clear hK_ K_)
        (refine tree_quiet (by simp only [List.getElem?_toArray, List.getElem?_cons_succ, List.getElem?_cons_zero]; rfl) (by rfl) (by rfl) (fun K_ hK_ => ?_); go_big_quiet_op; refine hK_ _ ?_; clear hK_ K_)
        (refine tree_quiet (by simp only [List.getElem?_toArray, List.getElem?_cons_succ, List.getElem?_cons_zero]; rfl) (by rfl) (by rfl) (fun K_ hK_ => ?_); go_big_quiet_op; refine hK_ _ ?_; clear hK_ K_)
        (refine tree_quiet (by simp only [List.getElem?_toArray, List.getElem?_cons_succ, List.getElem?_cons_zero]; rfl) (by rfl) (by rfl) (fun K_ hK_ => ?_); go_big_quiet_op; refine hK_ _ ?_; clear hK_ K_)
        (refine tree_quiet (by simp only [List.getElem?_toArray, List.getElem?_cons_succ, List.getElem?_cons_zero]; rfl) (by rfl) (by rfl) (fun K_ hK_ => ?_); go_big_quiet_op; refine hK_ _ ?_; clear hK_ K_)
        (refine tree_quiet (by simp only [List.getElem?_toArray, List.getElem?_cons_succ, List.getElem?_cons_zero]; rfl) (by rfl) (by rfl) (fun K_ hK_ => ?_); go_big_quiet_op; refine hK_ _ ?_; clear hK_ K_)
        (refine tree_quiet (by simp only [List.getElem?_toArray, List.getElem?_cons_succ, List.getElem?_cons_zero]; rfl) (by rfl) (by rfl) (fun K_ hK_ => ?_); go_big_quiet_op; refine hK_ _ ?_; clear hK_ K_)
        (refine tree_quiet (by simp only [List.getElem?_toArray, List.getElem?_cons_succ, List.getElem?_cons_zero]; rfl) (by rfl) (by rfl) (fun K_ hK_ => ?_); go_big_quiet_op; refine hK_ _ ?_; clear hK_ K_)
        (refine tree_quiet (by simp only [List.getElem?_toArray, List.getElem?_cons_succ, List.getElem?_cons_zero]; rfl) (by rfl) (by rfl) (fun K_ hK_ => ?_); go_big_quiet_op; refine hK_ _ ?_; clear hK_ K_)
        (refine tree_quiet (by simp only [List.getElem?_toArray, List.getElem?_cons_succ, List.getElem?_cons_zero]; rfl) (by rfl) (by rfl) (fun K_ hK_ => ?_); go_big_quiet_op; refine hK_ _ ?_; clear hK_ K_)
        (refine tree_quiet (by simp only [List.getElem?_toArray, List.getElem?_cons_succ, List.getElem?_cons_zero]; rfl) (by rfl) (by rfl) (fun K_ hK_ => ?_); go_big_quiet_op; refine hK_ _ ?_; clear hK_ K_)
        (refine tree_quiet (by simp only [List.getElem?_toArray, List.getElem?_cons_succ, List.getElem?_cons_zero]; rfl) (by rfl) (by rfl) (fun K_ hK_ => ?_); go_big_quiet_op; refine hK_ _ ?_; clear hK_ K_)
        (refine tree_quiet (by simp only [List.getElem?_toArray, List.getElem?_cons_succ, List.getElem?_cons_zero]; rfl) (by rfl) (by rfl) (fun K_ hK_ => ?_); go_big_quiet_op; refine hK_ _ ?_; clear hK_ K_)
        (refine tree_quiet (by simp only [List.getElem?_toArray, List.getElem?_cons_succ, List.getElem?_cons_zero]; rfl) (by rfl) (by rfl) (fun K_ hK_ => ?_); go_big_quiet_op; refine hK_ _ ?_; clear hK_ K_)
        (refine tree_quiet (by simp only [List.getElem?_toArray, List.getElem?_cons_succ, List.getElem?_cons_zero]; rfl) (by rfl) (by rfl) (fun K_ hK_ => ?_); go_big_quiet_op; refine hK_ _ ?_; clear hK_ K_)
        (refine tree_quiet (by simp only [List.getElem?_toArray, List.getElem?_cons_succ, List.getElem?_cons_zero]; rfl) (by rfl) (by rfl) (fun K_ hK_ => ?_); go_big_quiet_op; refine hK_ _ ?_; clear hK_ K_)
        (refine tree_quiet (by simp only [List.getElem?_toArray, List.getElem?_cons_succ, List.getElem?_cons_zero]; rfl) (by rfl) (by rfl) (fun K_ hK_ => ?_); go_big_quiet_op; refine hK_ _ ?_; clear hK_ K_)
        (refine tree_quiet (by simp only [List.getElem?_toArray, List.getElem?_cons_succ, List.getElem?_cons_zero]; rfl) (by rfl) (by rfl) (fun K_ hK_ => ?_); go_big_quiet_op; refine hK_ _ ?_; clear hK_ K_)
        (refine tree_quiet (by simp only [List.getElem?_toArray, List.getElem?_cons_succ, List.getElem?_cons_zero]; rfl) (by rfl) (by rfl) (fun K_ hK_ => ?_); go_big_quiet_op; refine hK_ _ ?_; clear hK_ K_)
        (refine tree_quiet (by simp only [List.getElem?_toArray, List.getElem?_cons_succ, List.getElem?_cons_zero]; rfl) (by rfl) (by rfl) (fun K_ hK_ => ?_); go_big_quiet_op; refine hK_ _ ?_; clear hK_ K_)
        (refine tree_quiet (by simp only [List.getElem?_toArray, List.getElem?_cons_succ, List.getElem?_cons_zero]; rfl) (by rfl) (by rfl) (fun K_ hK_ => ?_); go_big_quiet_op; refine hK_ _ ?_; clear hK_ K_)
        refine tree_nil ?_
        clear hG_
        go_wp2_with fail
        go_roundw
        case rel => exact ⟨j + 1, hlt, by go_num, HBS.out.drew⟩
        case measure => simp only [RowKit.intOf]; omega
      · obtain rfl : nI = j := by omega
        go_wp2_with fail
        go_ret
        exact ⟨rfl, HB11.out.trans (HB.out.mono hz11)⟩
  · go_wp2_with (first
      | (go_at_call 10; (with_reducible refine (HW.out _ (by exact blw)).mono ?_); rintro e w6 ⟨a6, c6, rfl, ho6, k6, k66, hb6⟩; have HH6 := Lib.hid (has_of_owns ho6); have HB6 := Lib.hid (show Below w.heap.size w w6 from by have h5 := HB4.out; have h5z := h5.size; exact blw); clear ho6)
      | (go_at_call 11; (with_reducible refine (rread_some a6 50 c6 (bytesE k) 40 40 rfl rsE 2 w6 HH6.out rfl k6 k66 (by decide) (by decide) (okE k hk16)).mono ?_); rintro e w7 ⟨gt, rfl, hT, hb7⟩; have HT := Lib.hid hT; have HB7 := Lib.hid (HB6.out.trans (hb7.mono HB6.out.size)); clear hT)
      | (go_at_call 13; (with_reducible refine (gnew_any aI nI cI ids w7 (HI.out.below HB7.out) HIL.out (by omega)).mono ?_); rintro e w8 ⟨gl, a8, c8, rfl, hG, hgl, hb8⟩; have HT8 := Lib.hid (HT.out.below hb8); have HB8 := Lib.hid (HB7.out.trans (hb8.mono HB7.out.size)); have hgl8 : w.heap.size ≤ gl := Nat.le_trans HB7.out.size hgl; have HG8 := Lib.hid (hG.mono HB7.out.size); clear hG hb8 hgl)
      | (go_at_call 23; (with_reducible refine (vorder_no (k : Nat) (nI : Nat) w8 (HV.out.below HB8.out) (by omega) (by omega) hok).mono ?_); rintro e w9 ⟨rfl, hb9⟩; have HT9 := Lib.hid (HT8.out.below hb9); have HB9 := Lib.hid (HB8.out.trans (hb9.mono HB8.out.size)); have HG9 := Lib.hid (HG8.out.below hb9); clear hb9)
      | (go_at_call 14; (with_reducible refine (HRUN.out _ _ _ _ _ w9 HT9.out HG9.out (HV.out.below HB9.out) HB9.out.size hgl8 HV.out.lt).mono ?_); rintro e w10 ⟨rfl, ⟨a10, c10, hG, _⟩, hk10⟩; have HG10 := Lib.hid hG; have HB10 := Lib.hid (HB9.out.trans hk10.below); clear hG hk10)
      | (go_at_call 24; (with_reducible refine (glen_any _ _ _ _ _ _ HG10.out).mono ?_); rintro e w_ ⟨rfl, rfl⟩)
      | (go_at_call 18; (with_reducible refine (gglyphs_any w.heap.size gl a10 c10 _ w10 HG10.out (by simp only [hLn]; omega)).mono ?_); rintro e w11 ⟨a11, c11, rfl, ho, _, _, _, hb11⟩; have HH11 := Lib.hid (has_of_owns ho); have HB11 := Lib.hid (HB10.out.trans (hb11.mono HB10.out.size)); have hz11 := HB11.out.size; clear ho hb11))
    go_loopw [67] (fun i wr => ∃ j : Nat, j ≤ nI ∧ i = .int .i64 (j : Nat) ∧ Below w11.heap.size w11 wr) (fun i _ => nI - (RowKit.intOf i).toNat)
    case atStart => exact ⟨0, Nat.zero_le _, rfl, Below.refl _ _⟩
    case round =>
      obtain ⟨j, hj, rfl, hb⟩ := hrel
      have HB := Lib.hid hb
      have hzr := hb.size
      clear hb
      by_cases hlt : j < nI
      · obtain ⟨gi, oi, p, rfl, hgi, hp, hc1, hc2⟩ := gv_at (HH11.out.below HB.out) (k := j) (by rw [hLn]; omega)
        obtain ⟨gk, ok, y, rfl, hgk, hy, hcy⟩ := iv_at (HI.out.below (HB11.out.trans (HB.out.mono hz11))) (k := j) (by rw [HIL.out]; omega)
        obtain rfl : p = (y, (j : Int)) := by
          rw [endNo hok, newG_get, hy] at hp
          injection hp with hp
          exact hp.symm
        simp only at hc1 hc2
        have d2 : decide ((j : Int) < (nI : Int)) = true := by simp; omega
        have d3 : decide ((j : Int) < 0) = false := by simp
        have d4 : decide ((nI : Int) ≤ (j : Int)) = false := by simp; omega
        have d5 : decide (nI ≤ j) = false := by simp; omega
        clear hp hy
        go_wp2_with fail
        obtain ⟨W, hW⟩ : ∃ W, W = wr.alloc (Obj.cells #[.int .i64 y, .int .i64 (j : Nat)] 53) := ⟨_, rfl⟩
        have hbW : Below wr.heap.size wr W := by rw [hW]; exact balloc (brefl wr) _
        have x11 : W.heap[wr.heap.size]? = some (.cells #[.int .i64 y, .int .i64 (j : Nat)] 53 (0, 0)) := by rw [hW, heap_push, if_pos rfl]
        rw [← hW]
        have q11 := cell_of_heap x11 0
        have q12 := cell_of_heap x11 1
        have l11 := (Array.getElem?_eq_some_iff.1 x11).1
        simp only [List.getElem?_toArray, List.getElem?_cons_zero, List.getElem?_cons_succ] at q11 q12
        have hcy' := (hbW.cell (p := ⟨gk, ok + j, none⟩) hgk).trans hcy
        have hgk' : gk < W.heap.size := Nat.lt_of_lt_of_le hgk hbW.size
        have HBS := Lib.hid (HB.out.trans (hbW.mono hzr))
        clear hW hbW x11 hcy hgk hc1 hc2
        refine wp_region_tree (.step 0 (.step 1 (.step 2 (.step 3 (.step 4 (.step 5 (.step 6 (.step 7 (.step 8 (.step 9 (.step 10 (.step 11 (.step 12 (.step 13 (.step 14 (.step 15 (.step 16 (.step 17 (.step 18 (.step 19 (.step 20 (.step 21 (.step 22 .nil))))))))))))))))))))))) (by kernel_rfl) (by kernel_rfl) (by kernel_rfl) (by kernel_rfl) (by intro _ _ d_ _ _ h_; cases d_ <;> first | exact h_ | (dsimp +zetaDelta only at h_ ⊢; exact h_)) (fun w' => ∃ p : Wld W [], w' = p.val) (wld_start _ _) ?_
        have hG_ := @wldC W
        (refine tree_quiet (by simp only [List.getElem?_toArray, List.getElem?_cons_succ, List.getElem?_cons_zero]; rfl) (by rfl) (by rfl) (fun K_ hK_ => ?_); go_big_quiet_op; refine hK_ _ ?_; clear hK_ K_)
        (refine tree_quiet (by simp only [List.getElem?_toArray, List.getElem?_cons_succ, List.getElem?_cons_zero]; rfl) (by rfl) (by rfl) (fun K_ hK_ => ?_); go_big_quiet_op; refine hK_ _ ?_; clear hK_ K_)
        (refine tree_quiet (by simp only [List.getElem?_toArray, List.getElem?_cons_succ, List.getElem?_cons_zero]; rfl) (by rfl) (by rfl) (fun K_ hK_ => ?_); go_big_quiet_op; refine hK_ _ ?_; clear hK_ K_)
        (refine tree_quiet (by simp only [List.getElem?_toArray, List.getElem?_cons_succ, List.getElem?_cons_zero]; rfl) (by rfl) (by rfl) (fun K_ hK_ => ?_); go_big_quiet_op; refine hK_ _ ?_; clear hK_ K_)
        (refine tree_quiet (by simp only [List.getElem?_toArray, List.getElem?_cons_succ, List.getElem?_cons_zero]; rfl) (by rfl) (by rfl) (fun K_ hK_ => ?_); go_big_quiet_op; refine hK_ _ ?_; clear hK_ K_)
        (refine tree_quiet (by simp only [List.getElem?_toArray, List.getElem?_cons_succ, List.getElem?_cons_zero]; rfl) (by rfl) (by rfl) (fun K_ hK_ => ?_); go_big_quiet_op; refine hK_ _ ?_; clear hK_ K_)
        (refine tree_quiet (by simp only [List.getElem?_toArray, List.getElem?_cons_succ, List.getElem?_cons_zero]; rfl) (by rfl) (by rfl) (fun K_ hK_ => ?_); go_big_quiet_op; refine hK_ _ ?_; clear hK_ K_)
        (refine tree_quiet (by simp only [List.getElem?_toArray, List.getElem?_cons_succ, List.getElem?_cons_zero]; rfl) (by rfl) (by rfl) (fun K_ hK_ => ?_); go_big_quiet_op; refine hK_ _ ?_; clear hK_ K_)
        (refine tree_quiet (by simp only [List.getElem?_toArray, List.getElem?_cons_succ, List.getElem?_cons_zero]; rfl) (by rfl) (by rfl) (fun K_ hK_ => ?_); go_big_quiet_op; refine hK_ _ ?_; clear hK_ K_)
        (refine tree_quiet (by simp only [List.getElem?_toArray, List.getElem?_cons_succ, List.getElem?_cons_zero]; rfl) (by rfl) (by rfl) (fun K_ hK_ => ?_); go_big_quiet_op; refine hK_ _ ?_; clear hK_ K_)
        (refine tree_quiet (by simp only [List.getElem?_toArray, List.getElem?_cons_succ, List.getElem?_cons_zero]; rfl) (by rfl) (by rfl) (fun K_ hK_ => ?_); go_big_quiet_op; refine hK_ _ ?_; clear hK_ K_)
        (refine tree_quiet (by simp only [List.getElem?_toArray, List.getElem?_cons_succ, List.getElem?_cons_zero]; rfl) (by rfl) (by rfl) (fun K_ hK_ => ?_); go_big_quiet_op; refine hK_ _ ?_; clear hK_ K_)
        (refine tree_quiet (by simp only [List.getElem?_toArray, List.getElem?_cons_succ, List.getElem?_cons_zero]; rfl) (by rfl) (by rfl) (fun K_ hK_ => ?_); go_big_quiet_op; refine hK_ _ ?_; clear hK_ K_)
        (refine tree_quiet (by simp only [List.getElem?_toArray, List.getElem?_cons_succ, List.getElem?_cons_zero]; rfl) (by rfl) (by rfl) (fun K_ hK_ => ?_); go_big_quiet_op; refine hK_ _ ?_; clear hK_ K_)
        (refine tree_quiet (by simp only [List.getElem?_toArray, List.getElem?_cons_succ, List.getElem?_cons_zero]; rfl) (by rfl) (by rfl) (fun K_ hK_ => ?_); go_big_quiet_op; refine hK_ _ ?_; clear hK_ K_)
        (refine tree_quiet (by simp only [List.getElem?_toArray, List.getElem?_cons_succ, List.getElem?_cons_zero]; rfl) (by rfl) (by rfl) (fun K_ hK_ => ?_); go_big_quiet_op; refine hK_ _ ?_; clear hK_ K_)
        (refine tree_quiet (by simp only [List.getElem?_toArray, List.getElem?_cons_succ, List.getElem?_cons_zero]; rfl) (by rfl) (by rfl) (fun K_ hK_ => ?_); go_big_quiet_op; refine hK_ _ ?_; clear hK_ K_)
        (refine tree_quiet (by simp only [List.getElem?_toArray, List.getElem?_cons_succ, List.getElem?_cons_zero]; rfl) (by rfl) (by rfl) (fun K_ hK_ => ?_); go_big_quiet_op; refine hK_ _ ?_; clear hK_ K_)
        (refine tree_quiet (by simp only [List.getElem?_toArray, List.getElem?_cons_succ, List.getElem?_cons_zero]; rfl) (by rfl) (by rfl) (fun K_ hK_ => ?_); go_big_quiet_op; refine hK_ _ ?_; clear hK_ K_)
        (refine tree_quiet (by simp only [List.getElem?_toArray, List.getElem?_cons_succ, List.getElem?_cons_zero]; rfl) (by rfl) (by rfl) (fun K_ hK_ => ?_); go_big_quiet_op; refine hK_ _ ?_; clear hK_ K_)
        (refine tree_quiet (by simp only [List.getElem?_toArray, List.getElem?_cons_succ, List.getElem?_cons_zero]; rfl) (by rfl) (by rfl) (fun K_ hK_ => ?_); go_big_quiet_op; refine hK_ _ ?_; clear hK_ K_)
        (refine tree_quiet (by simp only [List.getElem?_toArray, List.getElem?_cons_succ, List.getElem?_cons_zero]; rfl) (by rfl) (by rfl) (fun K_ hK_ => ?_); go_big_quiet_op; refine hK_ _ ?_; clear hK_ K_)
        (refine tree_quiet (by simp only [List.getElem?_toArray, List.getElem?_cons_succ, List.getElem?_cons_zero]; rfl) (by rfl) (by rfl) (fun K_ hK_ => ?_); go_big_quiet_op; refine hK_ _ ?_; clear hK_ K_)
        refine tree_nil ?_
        clear hG_
        go_wp2_with fail
        go_roundw
        case rel => exact ⟨j + 1, hlt, by go_num, HBS.out.drew⟩
        case measure => simp only [RowKit.intOf]; omega
      · obtain rfl : nI = j := by omega
        go_wp2_with fail
        go_ret
        exact ⟨rfl, HB11.out.trans (HB.out.mono hz11)⟩

open Go.ChangeShapes Go.WideShapes Go.ChangeAt Go.RowKit
open Go.ChangeMaps (open_string shut_string)

set_option maxRecDepth 100000 in
theorem wholeEnds_walks (H : Type) (enc : TypeId × Value → H) : WalksV H enc 7 [27, 5] := by
  intro W base args ds p hV hval hA _
  obtain ⟨v0, vs0, d0, ds0, p0, q0, hargs, rfl, rfl, h0, r0⟩ := trodAll_cons hA
  obtain ⟨v1, vs1, d1, ds1, p1, q1, rfl, rfl, rfl, h1, r1⟩ := trodAll_cons r0
  obtain ⟨rfl, rfl, rfl⟩ := trodAll_nil r1
  obtain rfl : args = #[v0, v1] := by cases args; simp_all
  obtain ⟨a, n, c, ids, rfl, hl, _, _, _, hi, hz⟩ := open_ids (hval 0 27 v0 rfl rfl) h0
  obtain ⟨z1, rfl, t1⟩ := open_int Tryd.underlying5 (hval 1 5 v1 rfl rfl) h1
  obtain ⟨x1, rfl, o1⟩ := wf_u8 t1
  exact wholeEnds_walk a n c ids (x1 : Int) W hi hl hz ⟨by omega, by omega⟩ hV

set_option maxRecDepth 100000 in
theorem wholeEnds_lifted (os : Os) (started : os.Started) (H : Type) (enc : TypeId × Value → H) :
    ReturnsInHanded {} Tryd.checked os 7 .any (fun w args => (Rows.wholeEndsSpec.pre enc Tryd.checked.prog Tryd.f7 [] false w args ∧ laidMetH Tryd.prog laidV w) ∧ sizedMet enc Tryd.checked.prog Tryd.f7 (OpenSpec.ofChange Rows.wholeEndsSpec) false w args) (Rows.wholeEndsSpec.post enc Tryd.checked.prog Tryd.f7 false true false false) :=
  lift_laid (s := Rows.wholeEndsSpec) (fn := Tryd.f7) started (by kernel_rfl) Tryd.func7
    (ChangeSpec.witness_shaped (enc := enc) (C := Tryd.checked) (os := os) (X := fun w _ => laidMetH Tryd.prog laidV w) false (World.doorLaid Tryd.prog 400 os) #[.slice none 0 0, .int .u8 0] 8 rfl (World.shaped_of_RefB (by kernel_rfl) (by kernel_rfl)) (by kernel_rfl) (by kernel_rfl) (by kernel_rfl) (door_met os _))
    rfl rfl (fun ds h => by match ds, h with | [d0, d1], _ => rfl) (by intro t ht; simp [Tryd.params7] at ht; first | (subst ht; exact ⟨by kernel_rfl, of_decide_eq_true (by kernel_rfl)⟩) | (obtain rfl | rfl := ht <;> exact ⟨by kernel_rfl, of_decide_eq_true (by kernel_rfl)⟩) | (obtain rfl | rfl | rfl := ht <;> exact ⟨by kernel_rfl, of_decide_eq_true (by kernel_rfl)⟩) | (obtain rfl | rfl | rfl | rfl := ht <;> exact ⟨by kernel_rfl, of_decide_eq_true (by kernel_rfl)⟩))
    (by rw [Tryd.params7]; exact wholeEnds_walks H enc)
theorem wholeEnds_over : Rows.wholeEndsRow.holds Tryd.pinned (OpenSpec.ofChange Rows.wholeEndsSpec) :=
  OpenClaim.holds_of_wide 7 Tryd.f7 rfl rfl rfl rfl rfl rfl rfl ⟨rfl, rfl, rfl, rfl, rfl⟩ rfl rfl rfl rfl rfl (by kernel_rfl) Tryd.func7 (by kernel_rfl)
    (of_decide_eq_true (by kernel_rfl)) (by unfold Func.isWrapper; first | (rw [if_pos (by decide +kernel)]; kernel_rfl) | (rw [if_neg (by decide +kernel)]; exact ⟨rfl, rfl⟩))
    (fun os started H enc _ => wholeEnds_lifted os started H enc)
theorem wholeEnds_proved : Rows.WholeEndsCardSaid :=
  Claim7.holds_tied_plain_at .later [] [.data] true (true, "8373405fcbf2cee226382fee390bd7ba0b61dd52971eae1a3fd12d45f8928637") true
    wholeEnds_over (fun _ h => by cases h) (by kernel_rfl) (fun _ h => by cases h) wholeEnds_row_tie rfl ⟨rfl, rfl⟩ (by kernel_rfl) rfl
    (fun f fn hf hfn => by
      obtain rfl : f = 7 := Option.some.inj ((show Tryd.prog.funcNamed "swash/swashtop.WholeEnds" = some 7 by kernel_rfl).symm.trans hf) |>.symm
      obtain rfl : fn = Tryd.f7 := (Option.some.inj (Tryd.func7.symm.trans hfn)).symm
      exact ⟨by kernel_rfl, fun j t ht => by
        have hall : (Tryd.f7.params.toList.all fun u => !Tryd.prog.wantsStandIn u) = true := by kernel_rfl
        have hm : t ∈ Tryd.f7.params.toList := Array.mem_toList_iff.2 (Array.mem_of_getElem? ht)
        exact (show Tryd.prog.wantsStandIn t = false by simpa using List.all_eq_true.1 hall t hm)⟩)
    (by kernel_rfl)
#print axioms wholeEnds_proved
end Go.Proofs.YtlhnfpkenlenjaaDoor
