
/- The walk of LigaLong. LigaLong returns true for every two numbers, and changes nothing: a long line of kept places joins just where as many actions have as many places. No condition beside the row's own. -/
import Derived.Test.YtlgkikmmpnnnfaaJ01
import Derived.Test.YtlgkikmmpnnnfaaJ20
import Derived.Test.YtlgkikmmpnnnfaaJ14
import Derived.DeepKeys
import Derived.Test.YtlgkikmmpnnnfaaJ12
namespace Go.Proofs.Ytlgkikmmpnnnfaa
open Go.RowKit Go.Lib

theorem alloc17 (w : World) : (Instr.alloc 55 true (.tuple #[])).run Try.prog w = .ok (.pointer (some ⟨w.heap.size, 0, none⟩)) (w.alloc (.cells #[.slice none 0 0, .slice none 0 0, .slice none 0 0, .int .u8 0, .slice none 0 0, .slice none 0 0, .slice none 0 0] 55)) := by kernel_rfl
theorem size17 : (Try.prog.info? 55).map (·.size) = some 7 := by kernel_rfl
theorem info_u32 : (Try.prog.info? 61).map (fun i => (i.zero, i.size, i.bytes)) = some (some (.int .u32 0), 1, 4) := by kernel_rfl
theorem keyG (x y : Int) (hx : -9223372036854775808 ≤ x ∧ x ≤ 9223372036854775807) (hy : -9223372036854775808 ≤ y ∧ y ≤ 9223372036854775807) : keyOf Try.prog 59 (.agg #[.int .i64 x, .int .i64 y]) = some (.string (keyBytes [.int .i64 x, .int .i64 y])) := by
  obtain ⟨m, hm⟩ : ∃ m, Try.prog.types.size = m + 1 := Nat.exists_eq_succ_of_ne_zero (by have : 0 < Try.prog.types.size := of_decide_eq_true (by kernel_rfl); omega)
  have hk : Try.prog.keyType 59 = true := by kernel_rfl
  have hc : Try.prog.cellsOf 59 = 2 := by kernel_rfl
  have hc1 : Try.prog.cellsOf 3 = 1 := by kernel_rfl
  have h1 : (Lit.int .i64 x).wf = true := WalkArith.wf_i64 (by omega)
  have h2 : (Lit.int .i64 y).wf = true := WalkArith.wf_i64 (by omega)
  unfold keyOf
  simp only [Try.underlying59]
  rw [if_pos (by simp [hk, Value.formed, Try.underlying59, hc]), hm]
  unfold Program.keyLits
  simp [Try.underlying59, Value.cells, hc, hc1, Program.keyLits, Try.underlying3, h1, h2]
theorem neG (x y : Int) (hx : -9223372036854775808 ≤ x ∧ x ≤ 9223372036854775807) (hy : -9223372036854775808 ≤ y ∧ y ≤ 9223372036854775807) (w : World) : (binOp .neq 59 (.agg #[.int .i64 x, .int .i64 y]) (.agg #[.int .i64 x, .int .i64 y])).run Try.prog w = .ok (.bool false) w := by
  obtain ⟨r, h1, h2⟩ := run_equal_deep (P := Try.prog) w (m := 2) (by omega) (k := 59) (by kernel_rfl) (by rw [Try.underlying59]) (keyG x y hx hy) (keyG x y hx hy)
  have : r = true := h2.2 rfl
  subst this
  simp [binOp, h1, Result.andThen]
theorem made_iv (n : Nat) : (madeCells (Value.int .i64 0).cells (n * 1)).toList = iv (List.replicate n 0) := by
  apply List.ext_getElem?
  intro j
  simp only [madeCells, Value.cells, iv]
  by_cases h : j < n
  · simp [h, Nat.mod_one]
  · simp [h]
theorem idsP_set (n : Nat) (h : 0 < n) : (iv (List.replicate n 0)).set (n - 1) (.int .i64 1) = iv (idsP n) := by
  obtain ⟨k, rfl⟩ : ∃ k, n = k + 1 := ⟨n - 1, by omega⟩
  simp [iv, idsP, List.replicate_succ']
set_option maxRecDepth 100000 in
set_option maxHeartbeats 12800000 in
theorem ligaLong_walk (x y : Nat) (hx : x ≤ 255) (hy : y ≤ 255) (w : World) :
    Calls Try.prog 6 #[.int .u8 (x : Nat), .int .u8 (y : Nat)] w fun e w' => e = .returned (.bool true) ∧ Below w.heap.size w w' := by
  have hAC := allocC
  have hAF := allocF
  have HSP := Lib.hid (fun W (_ : Below w.heap.size w W) => speaks17_any W)
  obtain ⟨n, hn⟩ : ∃ n, n = 2 + x % 120 := ⟨_, rfl⟩
  obtain ⟨m, hm⟩ : ∃ m, m = n + y % 3 := ⟨_, rfl⟩
  have f1 : IntKind.i64.wrap (x : Int) = (x : Int) := IntWalk.i64_in _ (by omega)
  have f2 : IntKind.i64.wrap (y : Int) = (y : Int) := IntWalk.i64_in _ (by omega)
  have f3 : (x : Int).tmod 120 = ((x % 120 : Nat) : Int) := by rw [Int.tmod_eq_emod_of_nonneg (by omega)]; omega
  have f4 : (y : Int).tmod 3 = ((y % 3 : Nat) : Int) := by rw [Int.tmod_eq_emod_of_nonneg (by omega)]; omega
  have f5 : IntKind.i64.wrap ((x % 120 : Nat) : Int) = ((x % 120 : Nat) : Int) := IntWalk.i64_in _ (by omega)
  have f6 : IntKind.i64.wrap ((y % 3 : Nat) : Int) = ((y % 3 : Nat) : Int) := IntWalk.i64_in _ (by omega)
  have f7 : IntKind.i64.wrap (2 + ((x % 120 : Nat) : Int)) = (n : Int) := by rw [IntWalk.i64_in _ (by omega)]; omega
  have f8 : IntKind.i64.wrap ((n : Int) + ((y % 3 : Nat) : Int)) = (m : Int) := by rw [IntWalk.i64_in _ (by omega)]; omega
  have f9 : IntKind.i64.wrap ((m : Int) - 1) = ((m - 1 : Nat) : Int) := by rw [IntWalk.i64_in _ (by omega)]; omega
  have f10 : IntKind.i64.wrap ((n : Int) - 1) = ((n - 1 : Nat) : Int) := by rw [IntWalk.i64_in _ (by omega)]; omega
  have HN := Lib.hid (show 2 ≤ n ∧ n ≤ m ∧ m ≤ 200 by omega)
  clear hn hm hx hy
  generalize x % 120 = x1 at *
  generalize y % 3 = y1 at *
  go_enter Try.func6, Try.ntmps6
  go_wp2_with (first
    | (go_at_call 14; (with_reducible refine (HSP.out _ (by exact blw)).mono ?_); rintro e w1 ⟨rfl, hb1⟩; have h1c := bc hb1; have h1f := bf hb1; have h1z := hb1.size; try simp only [World.size_alloc, World.size_drew] at h1z)
    | (go_at_call 25; (with_reducible refine (pair_any _).mono ?_); rintro e w2 ⟨aC, aR, aE, aA, aK, aL, rv, rfl, hP, hA, hK, hS, hb2⟩; have HP := Lib.hid hP; have HK := Lib.hid hK; have HS := Lib.hid hS; have HB2 := Lib.hid (show Below w.heap.size w w2 from by exact blw); clear hP hA hK hS hb2)
    | (refine wpAllocK rfl 55 rfl _ alloc17 ?_; (try dsimp only [Act.put]); (try simp only [List.setIfInBounds_toArray, List.set_cons_succ, List.set_cons_zero]); refine wpStoreK rfl 55 _ _ rfl w2.heap.size _ #[.slice aC 2 2, .slice aR 2 2, .slice aE 3 3, .int .u8 2, .slice aA 2 2, .slice aK 2 2, .slice aL 2 2] rfl rfl ((heap_push _ _ _).trans (if_pos rfl)) size17 rfl (by simp [Value.oneCell']) ?_; intro V x5 hk5 hz5 hb5; have HBV := Lib.hid (HB2.out.trans (((balloc (brefl w2) _).trans hb5).mono HB2.out.size)); have HV2 := Lib.hid (show Below w2.heap.size w2 V from (balloc (brefl w2) _).trans hb5); have hzV : V.heap.size = w2.heap.size + 1 := (by simpa using hz5); have ZX := Lib.hid x5; have q5 := fun o => cell_of_heap x5 o; have f5 := fun o => froz_of_heap x5 o; have HZV := Lib.hid hzV; have l5 := (Array.getElem?_eq_some_iff.1 x5).1; clear x5 hk5 hz5 hb5 hzV; (try dsimp only [Act.put]); (try simp only [List.setIfInBounds_toArray, List.set_cons_succ, List.set_cons_zero])))
  obtain ⟨g6, hg6⟩ : ∃ g6, g6 = w2.heap.size := ⟨_, rfl⟩
  obtain ⟨X, hX⟩ : ∃ X, X = V.setCell ⟨w2.heap.size, 4, none⟩ (.slice none 0 0) := ⟨_, rfl⟩
  have zX : X.heap[g6]? = some (.cells #[.slice aC 2 2, .slice aR 2 2, .slice aE 3 3, .int .u8 2, .slice none 0 0, .slice aK 2 2, .slice aL 2 2] 55 (0, 0)) := by rw [hX, hg6]; exact set_heap_at _ ZX.out
  have HBX := Lib.hid (show Below w2.heap.size w2 X from by rw [hX]; exact HV2.out.setCell (p := ⟨w2.heap.size, 4, none⟩) (Nat.le_refl _) _)
  have hgv : V.heap.size = g6 + 1 := by rw [HZV.out, hg6]
  have hxz : X.heap.size = g6 + 1 := by rw [hX]; simpa using hgv
  rw [← hX, ← hg6]
  have ZX0 := Lib.hid zX
  have HG6 := Lib.hid hg6
  clear hX zX q5 f5 l5 ZX HV2 HZV HBV hgv hg6
  go_loopw [32] (fun i wr => ∃ (j : Nat) (a : Option Addr) (c : Nat), j ≤ m - 1 ∧ i = .int .i64 (j : Nat) ∧ wr.heap[g6]? = some (.cells #[.slice aC 2 2, .slice aR 2 2, .slice aE 3 3, .int .u8 2, .slice a j c, .slice aK 2 2, .slice aL 2 2] 55 (0, 0)) ∧ wr.ownsRow (g6 + 1) 61 1 (.slice a j c) j (u32V (List.replicate j 0)) ∧ Below w2.heap.size w2 wr) (fun i _ => m - 1 - (Go.RowKit.intOf i).toNat)
  case atStart => exact ⟨0, none, 0, Nat.zero_le _, rfl, ZX0.out, World.ownsRow_nil _ _ _ _, HBX.out⟩
  case round =>
    obtain ⟨j, a, c, hj, rfl, hz, ho, hb⟩ := hrel
    rename World => wr
    have ZR := Lib.hid hz
    have HO := Lib.hid ho
    have HB := Lib.hid hb
    have l6 := (Array.getElem?_eq_some_iff.1 hz).1
    have q6 := fun o => cell_of_heap hz o
    have f6 := fun o => froz_of_heap hz o
    clear hz ho hb
    have hm2 : m ≤ 200 := HN.out.2.2
    by_cases hlt : j < m - 1
    · go_wp2_with (at_builtin; refine wpApp rfl _ _ 52 rfl (g6 + 1) 61 (.int .u32 0) 1 4 Try.underlying52 info_u32 rfl (by decide) _ j (u32V (List.replicate j 0)) rfl (owns_below HO.out (balloc (brefl wr) _) (Nat.le_refl _)) (some ⟨wr.heap.size, 0, none⟩) 1 1 (u32V [0]) rfl (by rfl) (has_alloc wr _ _) (fun h => by cases h) (by intro u hu; simp [u32V] at hu; subst hu; rfl) (by unfold maxLen; have := HN.out; omega) (by have := HN.out; omega) (by simp; omega) ?_; intro a8 c8 w8 ho8 k81 k82 k83 hb8 hg8; have HO8 := Lib.hid ho8; have HB8 := Lib.hid (show Below (g6 + 1) wr w8 from ((brefl wr).alloc (Nat.le_refl _) _ |>.mono (by omega)).trans hb8); have z8 := (HB8.out.block g6 (by omega)).trans ZR.out; have Z8 := Lib.hid z8; clear q6 f6; have q8 := fun o => cell_of_heap z8 o; have f8 := fun o => froz_of_heap z8 o; have l8 := (Array.getElem?_eq_some_iff.1 z8).1; clear ho8 hb8 hg8 z8)
      go_roundw
      case rel =>
        refine ⟨j + 1, a8, c8, hlt, by go_num, set_heap_at _ Z8.out, ?_, (HB.out.trans (HB8.out.mono (by rw [← HG6.out]; omega))).setCell (p := ⟨g6, 4, none⟩) (by rw [HG6.out]; exact Nat.le_refl _) _⟩
        have := set_owns (g := g6) (o := 4) (.slice a8 (j + 1) c8) HO8.out (own_neE HO8.out Z8.out (by decide))
        rwa [show u32V (List.replicate j 0) ++ u32V [0] = u32V (List.replicate (j + 1) 0) from by simp [u32V, List.replicate_succ']] at this
      case measure => simp [Go.RowKit.intOf]; omega
    · obtain rfl : m - 1 = j := by omega
      clear hlt
      have hn2 : 2 ≤ n := HN.out.1
      have hn1 : n - 1 < n := by omega
      go_wp2_with (first
        | (at_builtin; refine wpApp rfl _ _ 52 rfl (g6 + 1) 61 (.int .u32 0) 1 4 Try.underlying52 info_u32 rfl (by decide) _ (m - 1) (u32V (List.replicate (m - 1) 0)) rfl (owns_below HO.out (balloc (brefl wr) _) (Nat.le_refl _)) (some ⟨wr.heap.size, 0, none⟩) 1 1 (u32V [2147483648]) rfl (by rfl) (has_alloc wr _ _) (fun h => by cases h) (by intro u hu; simp [u32V] at hu; subst hu; rfl) (by unfold maxLen; have := HN.out; omega) (by have := HN.out; omega) (by simp; omega) ?_; intro a8 c8 w8 ho8 k81 k82 k83 hb8 hg8; rw [show m - 1 + 1 = m from by have := HN.out; omega] at ho8 k81 ⊢; rw [show u32V (List.replicate (m - 1) 0) ++ u32V [2147483648] = u32V (actsP m) from by simp [u32V, actsP]] at ho8; have HO8 := Lib.hid ho8; have HB8 := Lib.hid (show Below (g6 + 1) wr w8 from ((brefl wr).alloc (Nat.le_refl _) _ |>.mono (by omega)).trans hb8); have z8 := (HB8.out.block g6 (by omega)).trans ZR.out; have Z8 := Lib.hid z8; clear q6 f6; have q8 := fun o => cell_of_heap z8 o; have f8 := fun o => froz_of_heap z8 o; have l8 := (Array.getElem?_eq_some_iff.1 z8).1; clear ho8 hb8 hg8 z8)
        | (at_make; refine wpMake _ rfl _ _ 23 rfl (g6 + 1) 3 (.int .i64 0) 1 8 Try.underlying23 info_int n rfl rfl (by have := HN.out; omega) (by unfold maxLen; have := HN.out; omega) (by simp; omega) ?_; intro w9 ho9 hb9; rw [made_iv] at ho9; simp only [World.size_setCell] at ho9 hb9 ⊢; have z9 : w9.heap[g6]? = some (.cells #[.slice aC 2 2, .slice aR 2 2, .slice aE 3 3, .int .u8 2, .slice a8 m c8, .slice aK 2 2, .slice aL 2 2] 55 (0, 0)) := (hb9.block g6 l8).trans (set_heap_at _ Z8.out); have HA9 := Lib.hid (owns_below (set_owns (g := g6) (o := 4) (.slice a8 m c8) HO8.out (own_neE HO8.out Z8.out (by decide))) hb9 (by simp)); have HB9 := Lib.hid (show Below w2.heap.size w2 w9 from ((HB.out.trans (HB8.out.mono (by rw [← HG6.out]; omega))).setCell (p := ⟨g6, 4, none⟩) (by rw [HG6.out]; exact Nat.le_refl _) _).trans (hb9.mono (by have := HB8.out.size; rw [← HG6.out]; omega))); obtain ⟨_, _, u9, e9, _, h9, c9, _, r9, s9⟩ := row_at ho9 (n - 1) (by have := HN.out; omega); injection e9 with e9; injection e9 with e9; subst e9; have HI9 := Lib.hid (s9 (.int .i64 1)); have H9 := Lib.hid h9; have HZ9 := Lib.hid z9; have HX9 := Lib.hid ((set_heap_other (k := g6) (g := w8.heap.size) (o := n - 1) (.int .i64 1) (Nat.ne_of_lt l8)).trans z9); have q9 := fun o => cell_of_heap HX9.out o; clear q8 f8))
      obtain ⟨Y, hY⟩ : ∃ Y, Y = w9.setCell ⟨w8.heap.size, n - 1, none⟩ (.int .i64 1) := ⟨_, rfl⟩
      have hm0 : 2 ≤ m := by have := HN.out; omega
      have hnm : n ≤ m := HN.out.2.1
      have HAY := Lib.hid (show Has Y a8 (u32V (actsP m)) from by rw [hY]; exact has_of_owns (set_owns (g := w8.heap.size) (o := n - 1) _ HA9.out (own_neE HA9.out H9.out (by decide))))
      have HIY := Lib.hid (show Has Y (some ⟨w8.heap.size, 0, none⟩) (iv (idsP n)) from by rw [hY, ← idsP_set n (by omega)]; exact has_of_owns HI9.out)
      have HBY := Lib.hid (show Below w2.heap.size w2 Y from by rw [hY]; exact HB9.out.setCell (p := ⟨w8.heap.size, n - 1, none⟩) (by rw [← HG6.out]; show g6 ≤ w8.heap.size; omega) _)
      have HZY := Lib.hid (show Y.heap[g6]? = some (.cells #[.slice aC 2 2, .slice aR 2 2, .slice aE 3 3, .int .u8 2, .slice a8 m c8, .slice aK 2 2, .slice aL 2 2] 55 (0, 0)) from by rw [hY]; exact HX9.out)
      have lY := (Array.getElem?_eq_some_iff.1 HZY.out).1
      generalize w8.heap.size = gI at *
      rw [← hY]
      clear hY q9 c9 r9 s9 h9 z9 ho9 hb9 HI9 HA9 HB9 HX9 HZ9 HO8 HB8 Z8 l8
      refine (writeP aC aR aE a8 aK aL rv 2 2 3 c8 2 2 (actsP m) m (actsP_length m (by omega)) (by omega) (fun x hx => by have := actsP_lt m x hx; omega) Y (HP.out.below HBY.out) HAY.out (HK.out.below HBY.out) (HS.out.below HBY.out)).mono ?_
      rintro e w11 ⟨a11, c11, rfl, hown, hb11⟩
      have HH11 := Lib.hid (has_of_owns hown)
      have HY11 := Lib.hid hb11
      clear hown hb11
      have hbl : (pairB (actsP m)).length = 88 + 4 * m := by rw [pairB_length, actsP_length m (by omega)]
      have hok := pairJOk (actsP m) 9 (by rw [actsP_length m (by omega)]; omega) (actsP_lt m) (m - 1) (by rw [actsP_length m (by omega)]; omega) (by rw [actsP_get m _ (by omega) (by omega), if_pos rfl]; exact Nat.le_refl _)
      have hlong := pair_long n m hn2 HN.out.2.1 (by omega)
      have hLn : (ligD (pairB (actsP m)) rsP ((pairB (actsP m)).drop (num (pairB (actsP m)) 16 4)) ((pairB (actsP m)).drop (num (pairB (actsP m)) 20 4)) ((pairB (actsP m)).drop (num (pairB (actsP m)) 24 4)) (newG (idsP n))).1.1.length = n := by rw [ligD_length, newG_length, idsP_length n (by omega)]
      have hidw := newG_idsC (ids := idsP n) (fun z hz => by
        rcases List.mem_append.1 hz with hz | hz
        · rw [List.eq_of_mem_replicate hz]; decide
        · simp at hz; subst hz; decide)
      have HRD := Lib.hid (jread_some a11 (88 + 4 * m) c11 (pairB (actsP m)) 9 9 rfl rsP 2 w11 HH11.out hbl (by omega) (by decide) (by decide) hok)
      have HRUN := Lib.hid (fun (B Bm gt gl : Nat) (a : Option Addr) (c : Nat) (W : World) (hT : JIs 0 Bm gt (pairB (actsP m)) rsP 2 W) (hG : GIs B gl a c (newG (idsP n)) W) (hB : B ≤ W.heap.size) (hgl : B ≤ gl) => jrun_any 0 Bm gt (pairB (actsP m)) 9 rsP 2 B gl a c (newG (idsP n)) W hT hok (by decide) (by decide) (Nat.zero_le _) hgl hG hB hidw (by rw [newG_length, idsP_length n (by omega)]; omega))
      simp only at hlong
      generalize ligD (pairB (actsP m)) rsP ((pairB (actsP m)).drop (num (pairB (actsP m)) 16 4)) ((pairB (actsP m)).drop (num (pairB (actsP m)) 20 4)) ((pairB (actsP m)).drop (num (pairB (actsP m)) 24 4)) (newG (idsP n)) = RR at *
      obtain ⟨⟨R, _⟩, _, E⟩ := RR
      simp only at hlong hLn HRUN
      obtain ⟨rfl, hR⟩ := hlong
      have HR := Lib.hid hR
      have HIL := Lib.hid (idsP_length n (by omega))
      have hnn : ((n : Int) != (n : Int)) = false := by simp
      clear hR hok hidw hbl
      generalize pairB (actsP m) = bs at *
      go_wp2_with (first
        | (go_at_call 15; (with_reducible refine HRD.out.mono ?_); rintro e w12 ⟨gt, rfl, hT, hb12⟩; have HT := Lib.hid hT; have HY12 := Lib.hid (HY11.out.trans (hb12.mono HY11.out.size)); clear hT hb12)
        | (go_at_call 17; (with_reducible refine (gnew_any (some ⟨gI, 0, none⟩) n n (idsP n) w12 (HIY.out.below HY12.out) HIL.out (by omega)).mono ?_); rintro e w13 ⟨gx, ax, cx, rfl, hGx, hgx, hb13⟩; have HGX := Lib.hid hGx; have HT13 := Lib.hid (HT.out.below hb13); have hgx0 : w12.heap.size ≤ gx := hgx; have HZ13 := Lib.hid hb13.size; have HY13 := Lib.hid (HY12.out.trans (hb13.mono HY12.out.size)); clear hGx hgx hb13)
        | (go_at_call 18; (with_reducible refine (HRUN.out _ _ _ _ _ _ w13 HT13.out HGX.out HZ13.out hgx0).mono ?_); rintro e w14 ⟨rfl, ⟨ax6, cx6, hGx6, _⟩, hk6⟩; have HG14 := Lib.hid hGx6; have HY14 := Lib.hid (HY13.out.trans (hk6.below.mono HY12.out.size)); clear hGx6 hk6)
        | (go_at_call 22; (with_reducible refine (show Calls Try.prog 22 #[.pointer (some ⟨gx, 0, none⟩)] w14 fun e w' => ∃ a' c', e = .returned (.slice a' n c') ∧ w'.ownsRow w14.heap.size 59 2 (.slice a' n c') n (gv R) ∧ n ≤ c' ∧ c' ≤ maxLen ∧ (a' = none → c' = 0) ∧ Below w14.heap.size w14 w' from hLn ▸ gglyphs_any _ gx ax6 cx6 R w14 HG14.out (by rw [hLn]; omega)).mono ?_); rintro e w15 ⟨a15, c15, rfl, ho, _, _, _, hb15⟩; have HO15 := Lib.hid ho; have HY15 := Lib.hid (HY14.out.trans (hb15.mono HY14.out.size)); have z15 := (HY15.out.block g6 lY).trans HZY.out; have q15 := fun o => cell_of_heap z15 o; have HZ15 := Lib.hid z15; clear ho hb15 z15))
      obtain ⟨b13, hb13⟩ : ∃ b13, b13 = decide ((m : Int) ≤ min (n : Int) 64) := ⟨_, rfl⟩
      have HB13 := Lib.hid (show b13 = true ↔ m ≤ n - (n - 64) from by rw [hb13, decide_eq_true_iff]; omega)
      rw [← hb13]
      have l15 := (Array.getElem?_eq_some_iff.1 HZ15.out).1
      have HHO := Lib.hid (HIY.out.below HY15.out)
      clear hb13 q15
      go_loopw [86] (fun i wr => ∃ k : Nat, k ≤ n ∧ i = .int .i64 (k : Nat) ∧ Below w15.heap.size w15 wr) (fun i _ => n - (Go.RowKit.intOf i).toNat)
      case atStart => exact ⟨0, Nat.zero_le _, rfl, Below.refl _ _⟩
      case round =>
        obtain ⟨k, hk, rfl, hb⟩ := hrel
        rename World => wz
        have HBR := Lib.hid hb
        have HOR := Lib.hid (owns_below HO15.out hb (Nat.le_refl _))
        have HLN := Lib.hid hLn
        have z16 := (hb.block g6 l15).trans HZ15.out
        have q16 := fun o => cell_of_heap z16 o
        have l16 := (Array.getElem?_eq_some_iff.1 z16).1
        by_cases hlt : k < n
        · obtain ⟨gi, p, rfl, hgi, hgz, hp, hc1, hc2, _, _, _, _⟩ := grow_at HOR.out HLN.out hlt
          have hpk := HR.out k hlt
          (try simp only at hpk)
          rw [hp] at hpk
          injection hpk with hpk
          obtain ⟨bI, oI, hbI, hblI, hcI⟩ := (HHO.out.below hb).get (by rw [iv_length, HIL.out]; omega)
          have e1 := hcI k _ (iv_get (idsP_get n k (by omega) hlt))
          injection hbI with hbI
          injection hbI with hb1 hb2
          subst hb1 hb2
          (try simp only [Nat.zero_add] at e1)
          clear hp hcI z16 hb
          have HREL := Lib.hid (show ∀ wq, Below wz.heap.size wz wq → Below w15.heap.size w15 wq from fun wq h => HBR.out.trans (h.mono HBR.out.size))
          cases b13 with
          | true =>
            have hfit := HB13.out.1 rfl
            obtain rfl : n = m := by omega
            have hz0 : IntKind.i64.wrap ((n : Int) - (n : Int)) = 0 := by rw [IntWalk.i64_in _ (by omega)]; omega
            rw [if_pos hfit, Nat.sub_self] at hpk
            generalize (if k = n - 1 then (1 : Int) else 0) = idk at *
            by_cases hk0 : k = 0
            · subst hk0
              rw [if_pos rfl] at hpk
              subst hpk
              have hne := neG 9 0 (by omega) (by omega)
              simp only at hc1 hc2
              go_wp2_with fail
              go_roundw
              case rel => exact ⟨1, hlt, by go_num, HREL.out _ (by exact blw)⟩
              case measure => simp [Go.RowKit.intOf]; omega
            · rw [if_neg hk0, if_pos (by omega)] at hpk
              subst hpk
              have hne := neG 65535 (k : Int) (by omega) (by omega)
              have d1 : ((k : Int) == 0) = false := by simp [hk0]
              have d2 : decide (0 < (k : Int)) = true := by simp; omega
              simp only at hc1 hc2
              go_wp2_with fail
              go_roundw
              case rel => exact ⟨k + 1, hlt, by go_num, HREL.out _ (by exact blw)⟩
              case measure => simp [Go.RowKit.intOf]; omega
          | false =>
            rw [if_neg (fun h => by have := HB13.out.2 h; cases this)] at hpk
            have hid1 : (if k = n - 1 then (1 : Int) else 0) = 0 ∨ (if k = n - 1 then (1 : Int) else 0) = 1 := by split <;> simp
            generalize (if k = n - 1 then (1 : Int) else 0) = idk at *
            subst hpk
            have hne := neG idk (k : Int) (by omega) (by omega)
            simp only at hc1 hc2
            go_wp2_with fail
            go_roundw
            case rel => exact ⟨k + 1, hlt, by go_num, HREL.out _ (by exact blw)⟩
            case measure => simp [Go.RowKit.intOf]; omega
        · obtain rfl : n = k := by omega
          have HBW := Lib.hid (HB2.out.trans ((HBY.out.trans ((HY15.out.trans (HBR.out.mono HY15.out.size)).mono HBY.out.size)).mono HB2.out.size))
          clear hLn hlt hb z16 q16
          go_wp2_with fail
          go_ret
          exact ⟨rfl, HBW.out⟩

open Go.ChangeShapes Go.WideShapes Go.ChangeAt Go.RowKit
open Go.ChangeMaps (open_string shut_string)

set_option maxRecDepth 100000 in
theorem ligaLong_walks (H : Type) (enc : TypeId × Value → H) : Walks H enc 6 [5, 5] := by
  intro W base args ds p hval hA _
  obtain ⟨v0, vs0, d0, ds0, p0, q0, hargs, rfl, rfl, h0, r0⟩ := trodAll_cons hA
  obtain ⟨v1, vs1, d1, ds1, p1, q1, rfl, rfl, rfl, h1, r1⟩ := trodAll_cons r0
  obtain ⟨rfl, rfl, rfl⟩ := trodAll_nil r1
  obtain rfl : args = #[v0, v1] := by cases args; simp_all
  obtain ⟨z0, rfl, t0⟩ := open_int Try.underlying5 (hval 0 5 v0 rfl rfl) h0
  obtain ⟨x, rfl, hx⟩ := wf_u8 t0
  obtain ⟨z1, rfl, t1⟩ := open_int Try.underlying5 (hval 1 5 v1 rfl rfl) h1
  obtain ⟨y, rfl, hy⟩ := wf_u8 t1
  exact ligaLong_walk x y hx hy W

set_option maxRecDepth 100000 in
theorem ligaLong_lifted (os : Os) (started : os.Started) (H : Type) (enc : TypeId × Value → H) :
    ReturnsInHanded {} Try.checked os 6 .any (Rows.ligaLongSpec.pre6 enc Try.prog Try.f6 Rows.ligaLongRow.domain false) (Rows.ligaLongSpec.post enc Try.prog Try.f6 false true false false) :=
  lift_law (s := Rows.ligaLongSpec) (fn := Try.f6) started (by kernel_rfl) Try.func6
    (ChangeSpec.witness6 (enc := enc) (C := Try.checked) false ⟨#[], #[.int .u8 0, .int .u8 0], []⟩ 8 (by kernel_rfl) (by kernel_rfl) (by kernel_rfl) (by kernel_rfl))
    rfl rfl (fun ds h => by match ds, h with | [d0, d1], _ => rfl) (by intro t ht; simp [Try.params6] at ht; first | (subst ht; exact ⟨by kernel_rfl, of_decide_eq_true (by kernel_rfl)⟩) | (obtain rfl | rfl := ht <;> exact ⟨by kernel_rfl, of_decide_eq_true (by kernel_rfl)⟩) | (obtain rfl | rfl | rfl := ht <;> exact ⟨by kernel_rfl, of_decide_eq_true (by kernel_rfl)⟩) | (obtain rfl | rfl | rfl | rfl := ht <;> exact ⟨by kernel_rfl, of_decide_eq_true (by kernel_rfl)⟩))
    (by rw [Try.params6]; exact ligaLong_walks H enc)
theorem ligaLong_over : Rows.ligaLongRow.holds Try.pinned (OpenSpec.ofChange Rows.ligaLongSpec) :=
  OpenClaim.holds_of_wide 6 Try.f6 rfl rfl rfl rfl rfl rfl rfl ⟨rfl, rfl, rfl, rfl, rfl⟩ rfl rfl rfl rfl rfl (by kernel_rfl) Try.func6 (by kernel_rfl)
    (of_decide_eq_true (by kernel_rfl)) (by unfold Func.isWrapper; first | (rw [if_pos (by decide +kernel)]; kernel_rfl) | (rw [if_neg (by decide +kernel)]; exact ⟨rfl, rfl⟩))
    (fun os started H enc _ => ligaLong_lifted os started H enc)
theorem ligaLong_proved : Rows.LigaLongSaid := ligaLong_over
#print axioms ligaLong_proved
end Go.Proofs.Ytlgkikmmpnnnfaa
