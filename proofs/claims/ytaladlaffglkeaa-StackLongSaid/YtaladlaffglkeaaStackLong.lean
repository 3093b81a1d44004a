
/- The walk of StackLong. StackLong returns true for every two numbers, and changes nothing: of however many glyphs that are kept one behind the other, no more than eight move. No condition beside the row's own. -/
import Derived.Test.YtaladlaffglkeaaJ01
import Derived.Test.YtaladlaffglkeaaJ20
import Derived.Test.YtaladlaffglkeaaJ16
import Derived.DeepKeys
namespace Go.Proofs.Ytaladlaffglkeaa
open Go.RowKit Go.Lib

theorem info_i16K : (Try.prog.info? 66).map (fun i => (i.zero, i.size, i.bytes)) = some (some (.int .i16 0), 1, 2) := by kernel_rfl
theorem wfI32 {x : Int} (h : -2147483648 ≤ x ∧ x ≤ 2147483647) : (Lit.int .i32 x).wf = true := by
  simp [Lit.wf, IntKind.min, IntKind.max, IntKind.signed, IntKind.bits]
  omega
theorem keyPl (x y z : Int) (hx : -2147483648 ≤ x ∧ x ≤ 2147483647) (hy : -2147483648 ≤ y ∧ y ≤ 2147483647) (hz : -2147483648 ≤ z ∧ z ≤ 2147483647) : keyOf Try.prog 84 (.agg #[.int .i32 x, .int .i32 y, .int .i32 z]) = some (.string (keyBytes [.int .i32 x, .int .i32 y, .int .i32 z])) := by
  obtain ⟨m, hm⟩ : ∃ m, Try.prog.types.size = m + 1 := Nat.exists_eq_succ_of_ne_zero (by have : 0 < Try.prog.types.size := of_decide_eq_true (by kernel_rfl); omega)
  have hk : Try.prog.keyType 84 = true := by kernel_rfl
  have hc : Try.prog.cellsOf 84 = 3 := by kernel_rfl
  have hc1 : Try.prog.cellsOf 21 = 1 := by kernel_rfl
  have h1 := wfI32 hx
  have h2 := wfI32 hy
  have h3 := wfI32 hz
  unfold keyOf
  simp only [Try.underlying84]
  rw [if_pos (by simp [hk, Value.formed, Try.underlying84, hc]), hm]
  unfold Program.keyLits
  simp [Try.underlying84, Value.cells, hc, hc1, Program.keyLits, Try.underlying21, h1, h2, h3]
theorem nePl (x : Int) (hx : -2147483648 ≤ x ∧ x ≤ 2147483647) (w : World) : (binOp .neq 84 (.agg #[.int .i32 x, .int .i32 0, .int .i32 0]) (.agg #[.int .i32 x, .int .i32 0, .int .i32 0])).run Try.prog w = .ok (.bool false) w := by
  obtain ⟨r, h1, h2⟩ := run_equal_deep (P := Try.prog) w (m := 3) (by omega) (k := 84) (by kernel_rfl) (by rw [Try.underlying84]) (keyPl x 0 0 hx (by omega) (by omega)) (keyPl x 0 0 hx (by omega) (by omega))
  have : r = true := h2.2 rfl
  subst this
  simp [binOp, h1, Result.andThen]
set_option maxRecDepth 100000 in
set_option maxHeartbeats 12800000 in
theorem stackLong_walk (x y : Nat) (hx : x ≤ 255) (hy : y ≤ 255) (w : World) :
    Calls Try.prog 7 #[.int .u8 (x : Nat), .int .u8 (y : Nat)] w fun e w' => e = .returned (.bool true) ∧ Below w.heap.size w w' := by
  have hAC := allocC
  have hAF := allocF
  have HSP := Lib.hid (fun W (_ : Below w.heap.size w W) => speaks23_any W)
  obtain ⟨n, hn⟩ : ∃ n, n = 1 + x % 20 := ⟨_, rfl⟩
  obtain ⟨k, hm⟩ : ∃ k, k = 1 + y % 12 := ⟨_, rfl⟩
  have f1 : IntKind.i64.wrap (x : Int) = (x : Int) := IntWalk.i64_in _ (by omega)
  have f2 : IntKind.i64.wrap (y : Int) = (y : Int) := IntWalk.i64_in _ (by omega)
  have f3 : (x : Int).tmod 20 = ((x % 20 : Nat) : Int) := by rw [Int.tmod_eq_emod_of_nonneg (by omega)]; omega
  have f4 : (y : Int).tmod 12 = ((y % 12 : Nat) : Int) := by rw [Int.tmod_eq_emod_of_nonneg (by omega)]; omega
  have f5 : IntKind.i64.wrap ((x % 20 : Nat) : Int) = ((x % 20 : Nat) : Int) := IntWalk.i64_in _ (by omega)
  have f6 : IntKind.i64.wrap ((y % 12 : Nat) : Int) = ((y % 12 : Nat) : Int) := IntWalk.i64_in _ (by omega)
  have f7 : IntKind.i64.wrap (1 + ((x % 20 : Nat) : Int)) = (n : Int) := by rw [IntWalk.i64_in _ (by omega)]; omega
  have f8 : IntKind.i64.wrap (1 + ((y % 12 : Nat) : Int)) = (k : Int) := by rw [IntWalk.i64_in _ (by omega)]; omega
  have f9 : IntKind.i64.wrap ((k : Int) - 1) = ((k - 1 : Nat) : Int) := by rw [IntWalk.i64_in _ (by omega)]; omega
  have f10 : IntKind.i64.wrap ((n : Int) - 1) = ((n - 1 : Nat) : Int) := by rw [IntWalk.i64_in _ (by omega)]; omega
  have HN := Lib.hid (show 1 ≤ n ∧ n ≤ 20 ∧ 1 ≤ k ∧ k ≤ 12 by omega)
  clear hn hm hx hy
  generalize x % 20 = x1 at *
  generalize y % 12 = y1 at *
  go_enter Try.func7, Try.ntmps7
  go_wp2_with ((go_at_call 27; (with_reducible refine (HSP.out _ (by exact blw)).mono ?_); rintro e w1 ⟨rfl, hb1⟩; have h1c := bc hb1; have h1f := bf hb1; have h1z := hb1.size; try simp only [World.size_alloc, World.size_drew] at h1z))
  have HB0 := Lib.hid (show Below w.heap.size w w1 from by exact blw)
  obtain ⟨v1, h1⟩ : ∃ v, v = w1.alloc (Obj.cells #[.int .u8 4, .int .u8 5] 5) := ⟨_, rfl⟩
  obtain ⟨v2, h2⟩ : ∃ v, v = v1.alloc (Obj.cells #[.int .u8 0, .int .u8 0, .int .u8 0, .int .u8 0, .int .u8 1, .int .u8 2] 5) := ⟨_, rfl⟩
  obtain ⟨v3, h3⟩ : ∃ v, v = v2.alloc (Obj.cells #[.int .u8 0, .int .u8 0, .int .u8 0, .int .u8 0, .int .u8 1, .int .u8 2] 5) := ⟨_, rfl⟩
  obtain ⟨v4, h4⟩ : ∃ v, v = v3.alloc (Obj.cells #[.slice (some ⟨w1.heap.size + 1, 0, none⟩) 6 6, .slice (some ⟨w1.heap.size + 1 + 1, 0, none⟩) 6 6] 22) := ⟨_, rfl⟩
  obtain ⟨v5, h5⟩ : ∃ v, v = v4.alloc (Obj.cells #[.int .i64 0, .int .i64 0, .int .i64 65535, .int .i64 0, .int .i64 0, .int .i64 32768, .int .i64 65535, .int .i64 0, .int .i64 0, .int .i64 32768, .int .i64 0, .int .i64 0] 88) := ⟨_, rfl⟩
  obtain ⟨v6, h6⟩ : ∃ v, v = v5.alloc (Obj.cells #[.slice (some ⟨w1.heap.size, 0, none⟩) 2 2, .slice (some ⟨w1.heap.size + 1 + 1 + 1, 0, none⟩) 2 2, .slice (some ⟨w1.heap.size + 1 + 1 + 1 + 1, 0, none⟩) 3 3, .int .u8 2] 51) := ⟨_, rfl⟩
  obtain ⟨v7, h7⟩ : ∃ v, v = v6.alloc (Obj.cells #[.slice (some ⟨w1.heap.size, 0, none⟩) 2 2, .slice (some ⟨w1.heap.size + 1 + 1 + 1, 0, none⟩) 2 2, .slice (some ⟨w1.heap.size + 1 + 1 + 1 + 1, 0, none⟩) 3 3, .int .u8 2, .slice none 0 0] 69) := ⟨_, rfl⟩
  have z1 : v1.heap.size = w1.heap.size + 1 := by rw [h1, World.size_alloc]
  have b1 : Below w1.heap.size w1 v1 := by rw [h1]; exact balloc (brefl w1) _
  have z2 : v2.heap.size = w1.heap.size + 1 + 1 := by rw [h2, World.size_alloc, z1]
  have b2 : Below v1.heap.size v1 v2 := by rw [h2]; exact balloc (brefl v1) _
  have z3 : v3.heap.size = w1.heap.size + 1 + 1 + 1 := by rw [h3, World.size_alloc, z2]
  have b3 : Below v2.heap.size v2 v3 := by rw [h3]; exact balloc (brefl v2) _
  have z4 : v4.heap.size = w1.heap.size + 1 + 1 + 1 + 1 := by rw [h4, World.size_alloc, z3]
  have b4 : Below v3.heap.size v3 v4 := by rw [h4]; exact balloc (brefl v3) _
  have z5 : v5.heap.size = w1.heap.size + 1 + 1 + 1 + 1 + 1 := by rw [h5, World.size_alloc, z4]
  have b5 : Below v4.heap.size v4 v5 := by rw [h5]; exact balloc (brefl v4) _
  have z6 : v6.heap.size = w1.heap.size + 1 + 1 + 1 + 1 + 1 + 1 := by rw [h6, World.size_alloc, z5]
  have b6 : Below v5.heap.size v5 v6 := by rw [h6]; exact balloc (brefl v5) _
  have z7 : v7.heap.size = w1.heap.size + 1 + 1 + 1 + 1 + 1 + 1 + 1 := by rw [h7, World.size_alloc, z6]
  have b7 : Below v6.heap.size v6 v7 := by rw [h7]; exact balloc (brefl v6) _
  have t7 := brefl v7
  have t6 := bthen b7 t7
  have t5 := bthen b6 t6
  have t4 := bthen b5 t5
  have t3 := bthen b4 t4
  have t2 := bthen b3 t3
  have t1 := bthen b2 t2
  have t0 := bthen b1 t1
  have g1 := has_alloc w1 #[.int .u8 4, .int .u8 5] 5
  rw [← h1] at g1
  have g2 := has_alloc v1 #[.int .u8 0, .int .u8 0, .int .u8 0, .int .u8 0, .int .u8 1, .int .u8 2] 5
  rw [← h2, z1] at g2
  have g3 := has_alloc v2 #[.int .u8 0, .int .u8 0, .int .u8 0, .int .u8 0, .int .u8 1, .int .u8 2] 5
  rw [← h3, z2] at g3
  have g4 := has_alloc v3 #[.slice (some ⟨w1.heap.size + 1, 0, none⟩) 6 6, .slice (some ⟨w1.heap.size + 1 + 1, 0, none⟩) 6 6] 22
  rw [← h4, z3] at g4
  have g5 := has_alloc v4 #[.int .i64 0, .int .i64 0, .int .i64 65535, .int .i64 0, .int .i64 0, .int .i64 32768, .int .i64 65535, .int .i64 0, .int .i64 0, .int .i64 32768, .int .i64 0, .int .i64 0] 88
  rw [← h5, z4] at g5
  have g6 := has_alloc v5 #[.slice (some ⟨w1.heap.size, 0, none⟩) 2 2, .slice (some ⟨w1.heap.size + 1 + 1 + 1, 0, none⟩) 2 2, .slice (some ⟨w1.heap.size + 1 + 1 + 1 + 1, 0, none⟩) 3 3, .int .u8 2] 51
  rw [← h6, z5] at g6
  have z8 : v7.heap[v6.heap.size]? = some (.cells #[.slice (some ⟨w1.heap.size, 0, none⟩) 2 2, .slice (some ⟨w1.heap.size + 1 + 1 + 1, 0, none⟩) 2 2, .slice (some ⟨w1.heap.size + 1 + 1 + 1 + 1, 0, none⟩) 3 3, .int .u8 2, .slice none 0 0] 69 (0, 0)) := by rw [h7]; exact (heap_push _ _ _).trans (if_pos rfl)
  have HP := Lib.hid (show PlanHas v6 planQ23 (some ⟨w1.heap.size, 0, none⟩) (some ⟨w1.heap.size + 1 + 1 + 1, 0, none⟩) [.slice (some ⟨w1.heap.size + 1, 0, none⟩) 6 6, .slice (some ⟨w1.heap.size + 1 + 1, 0, none⟩) 6 6] (some ⟨w1.heap.size + 1 + 1 + 1 + 1, 0, none⟩) from ⟨(g1).below (Below.mono (show Below v1.heap.size v1 v6 from bthen b2 (bthen b3 (bthen b4 (bthen b5 b6)))) (Nat.le_refl _)), g4.below (bthen b5 b6), rfl, fun i r hr => by
    match i, hr with
    | 0, hr => simp [planQ23] at hr; subst hr; exact ⟨_, 6, rfl, (g2).below (bthen b3 (bthen b4 (bthen b5 b6)))⟩
    | 1, hr => simp [planQ23] at hr; subst hr; exact ⟨_, 6, rfl, g3.below (bthen b4 (bthen b5 b6))⟩
    | n + 2, hr => simp [planQ23] at hr, g5.below b6⟩)
  have HB6 := Lib.hid (HB0.out.trans ((bthen b1 (bthen b2 (bthen b3 (bthen b4 (bthen b5 b6))))).mono HB0.out.size))
  rw [← h1, ← h2, ← h3, ← h4, ← h5, ← h6, ← h7]
  obtain ⟨aC, haC⟩ : ∃ a : Option Addr, a = (some ⟨w1.heap.size, 0, none⟩) := ⟨_, rfl⟩
  obtain ⟨aR, haR⟩ : ∃ a : Option Addr, a = (some ⟨w1.heap.size + 1 + 1 + 1, 0, none⟩) := ⟨_, rfl⟩
  obtain ⟨aE, haE⟩ : ∃ a : Option Addr, a = (some ⟨w1.heap.size + 1 + 1 + 1 + 1, 0, none⟩) := ⟨_, rfl⟩
  rw [← haC, ← haR, ← haE] at z8 HP
  have z7' : v7.heap.size = v6.heap.size + 1 := by rw [z7, z6]
  have hg8 : w1.heap.size + 1 + 1 + 1 + 1 + 1 + 1 = v6.heap.size := z6.symm
  rw [hg8]
  obtain ⟨g8, hg8'⟩ : ∃ g8, g8 = v6.heap.size := ⟨_, rfl⟩
  rw [← hg8'] at z8 z7' ⊢
  have HG8 := Lib.hid hg8'
  have HBX := Lib.hid b7
  have ZX := Lib.hid z8
  clear h1 b1 t1 z1 h2 b2 t2 z2 h3 b3 t3 z3 h4 b4 t4 z4 h5 b5 t5 z5 h6 b6 t6 z6 h7 b7 t7 z7 t0 g1 g2 g3 g4 g5 g6 z8 h1c h1f hb1 h1z haC haR haE hg8 hg8'
  go_loopw [41] (fun i wr => ∃ (j : Nat) (a : Option Addr) (c : Nat), j ≤ k ∧ i = .int .i64 (j : Nat) ∧ wr.heap[g8]? = some (.cells #[.slice aC 2 2, .slice aR 2 2, .slice aE 3 3, .int .u8 2, .slice a j c] 69 (0, 0)) ∧ wr.ownsRow (g8 + 1) 66 1 (.slice a j c) j (i16V ((vsK k).take j)) ∧ Below v6.heap.size v6 wr) (fun i _ => k - (Go.RowKit.intOf i).toNat)
  case atStart => exact ⟨0, none, 0, Nat.zero_le _, rfl, ZX.out, World.ownsRow_nil _ _ _ _, HBX.out⟩
  case round =>
    obtain ⟨j, a, c, hj, rfl, hz, ho, hb⟩ := hrel
    rename World => wr
    have ZR := Lib.hid hz
    have HO := Lib.hid ho
    have HB := Lib.hid hb
    have l6 := (Array.getElem?_eq_some_iff.1 hz).1
    have q6 := fun o => cell_of_heap hz o
    have f6 := fun o => froz_of_heap hz o
    clear hz ho hb
    obtain ⟨hN1, hN2, hN3, hN4⟩ := HN.out
    by_cases hlt : j < k
    · have hj1 : IntKind.i64.wrap ((j : Int) + 1) = (j : Int) + 1 := IntWalk.i64_in _ (by omega)
      have hj2 : IntKind.i64.wrap (2 * ((j : Int) + 1)) = 2 * ((j : Int) + 1) := IntWalk.i64_in _ (by omega)
      have hj3 : IntKind.i16.wrap (2 * ((j : Int) + 1)) = 2 * ((j : Int) + 1) := by simp only [IntKind.wrap, IntKind.bits, IntKind.signed]; simp; omega
      have hj4 : IntKind.i16.wrap (2 * ((j : Int) + 1) + 1) = 2 * ((j : Int) + 1) + 1 := by simp only [IntKind.wrap, IntKind.bits, IntKind.signed]; simp; omega
      have htk : (vsK k).take (j + 1) = (vsK k).take j ++ [2 * ((j : Nat) : Int) + 2 + (if j + 1 = k then 1 else 0)] := by
        rw [List.take_add_one, vsK_get hlt]
        rfl
      by_cases hlast : j + 1 = k
      · have hd : ((j : Int) == ((k - 1 : Nat) : Int)) = true := by simp; omega
        rw [if_pos hlast, show 2 * ((j : Nat) : Int) + 2 + 1 = 2 * ((j : Int) + 1) + 1 by omega] at htk
        have HTK := Lib.hid htk
        clear htk hlast
        go_wp2_with (at_builtin; refine wpApp rfl _ _ 58 rfl (g8 + 1) 66 (.int .i16 0) 1 2 Try.underlying58 info_i16K rfl (by decide) _ j (i16V ((vsK k).take j)) rfl (owns_below HO.out (balloc (brefl wr) _) (Nat.le_refl _)) (some ⟨wr.heap.size, 0, none⟩) 1 1 (i16V [2 * ((j : Int) + 1) + 1]) rfl (by rfl) (has_alloc wr _ _) (fun h => by cases h) (by intro u hu; simp [i16V] at hu; subst hu; rfl) (by unfold maxLen; omega) (by omega) (by simp; omega) ?_; intro a8 c8 w8 ho8 k81 k82 k83 hb8 hg8; rw [show i16V ((vsK k).take j) ++ i16V [2 * ((j : Int) + 1) + 1] = i16V ((vsK k).take (j + 1)) from by rw [HTK.out]; simp [i16V]] at ho8; have HO8 := Lib.hid ho8; have HB8 := Lib.hid (show Below (g8 + 1) wr w8 from ((brefl wr).alloc (Nat.le_refl _) _ |>.mono (by omega)).trans hb8); have z9 := (HB8.out.block g8 (by omega)).trans ZR.out; have Z8 := Lib.hid z9; clear q6 f6; have q8 := fun o => cell_of_heap z9 o; have f8' := fun o => froz_of_heap z9 o; have l8 := (Array.getElem?_eq_some_iff.1 z9).1; clear ho8 hb8 hg8 z9)
        go_roundw
        case rel =>
          refine ⟨j + 1, a8, c8, hlt, by go_num, set_heap_at _ Z8.out, ?_, (HB.out.trans (HB8.out.mono (by rw [← HG8.out]; omega))).setCell (p := ⟨g8, 4, none⟩) (by rw [HG8.out]; exact Nat.le_refl _) _⟩
          exact set_owns (g := g8) (o := 4) (.slice a8 (j + 1) c8) HO8.out (own_neE HO8.out Z8.out (by decide))
        case measure => simp [Go.RowKit.intOf]; omega
      · have hd : ((j : Int) == ((k - 1 : Nat) : Int)) = false := by simp; omega
        rw [if_neg hlast, show 2 * ((j : Nat) : Int) + 2 + 0 = 2 * ((j : Int) + 1) by omega] at htk
        have HTK := Lib.hid htk
        clear htk
        go_wp2_with (at_builtin; refine wpApp rfl _ _ 58 rfl (g8 + 1) 66 (.int .i16 0) 1 2 Try.underlying58 info_i16K rfl (by decide) _ j (i16V ((vsK k).take j)) rfl (owns_below HO.out (balloc (brefl wr) _) (Nat.le_refl _)) (some ⟨wr.heap.size, 0, none⟩) 1 1 (i16V [2 * ((j : Int) + 1)]) rfl (by rfl) (has_alloc wr _ _) (fun h => by cases h) (by intro u hu; simp [i16V] at hu; subst hu; rfl) (by unfold maxLen; omega) (by omega) (by simp; omega) ?_; intro a8 c8 w8 ho8 k81 k82 k83 hb8 hg8; rw [show i16V ((vsK k).take j) ++ i16V [2 * ((j : Int) + 1)] = i16V ((vsK k).take (j + 1)) from by rw [HTK.out]; simp [i16V]] at ho8; have HO8 := Lib.hid ho8; have HB8 := Lib.hid (show Below (g8 + 1) wr w8 from ((brefl wr).alloc (Nat.le_refl _) _ |>.mono (by omega)).trans hb8); have z9 := (HB8.out.block g8 (by omega)).trans ZR.out; have Z8 := Lib.hid z9; clear q6 f6; have q8 := fun o => cell_of_heap z9 o; have f8' := fun o => froz_of_heap z9 o; have l8 := (Array.getElem?_eq_some_iff.1 z9).1; clear ho8 hb8 hg8 z9)
        go_roundw
        case rel =>
          refine ⟨j + 1, a8, c8, hlt, by go_num, set_heap_at _ Z8.out, ?_, (HB.out.trans (HB8.out.mono (by rw [← HG8.out]; omega))).setCell (p := ⟨g8, 4, none⟩) (by rw [HG8.out]; exact Nat.le_refl _) _⟩
          exact set_owns (g := g8) (o := 4) (.slice a8 (j + 1) c8) HO8.out (own_neE HO8.out Z8.out (by decide))
        case measure => simp [Go.RowKit.intOf]; omega
    · obtain rfl : k = j := by omega
      have ho := HO.out
      rw [List.take_of_length_le (by rw [vsK_length]; exact Nat.le_refl _)] at ho
      have HO := Lib.hid ho
      clear hlt ho
      have hn1 : n - 1 < n := by omega
      go_wp2_with (at_make; refine wpMake _ rfl _ _ 23 rfl (g8 + 1) 3 (.int .i64 0) 1 8 Try.underlying23 info_int n rfl rfl (by omega) (by unfold maxLen; omega) (by omega) ?_; intro w9 ho9 hb9; rw [made_ivK] at ho9; have z9 := (hb9.block g8 l6).trans ZR.out; have HA9 := Lib.hid (owns_below HO.out hb9 (Nat.le_refl _)); have HB9 := Lib.hid (HB.out.trans (hb9.mono HB.out.size)); obtain ⟨_, _, u9, e9, _, h9, c9, _, r9, s9⟩ := row_at ho9 (n - 1) (by omega); injection e9 with e9; injection e9 with e9; subst e9; have HI9 := Lib.hid (s9 (.int .i64 1)); have H9 := Lib.hid h9; have HX9 := Lib.hid ((set_heap_other (k := g8) (g := wr.heap.size) (o := n - 1) (.int .i64 1) (Nat.ne_of_lt l6)).trans z9); have q9 := fun o => cell_of_heap HX9.out o; have l9 := (Array.getElem?_eq_some_iff.1 z9).1; clear q6 f6)
      obtain ⟨Y, hY⟩ : ∃ Y, Y = w9.setCell ⟨wr.heap.size, n - 1, none⟩ (.int .i64 1) := ⟨_, rfl⟩
      have HAY := Lib.hid (show Has Y a (i16V (vsK k)) from by rw [hY]; exact has_of_owns (set_owns (g := wr.heap.size) (o := n - 1) _ HA9.out (own_neE HA9.out H9.out (by decide))))
      have HIY := Lib.hid (show Has Y (some ⟨wr.heap.size, 0, none⟩) (iv (idsQ n)) from by rw [hY, ← idsQ_set n (by omega)]; exact has_of_owns HI9.out)
      have HBY := Lib.hid (show Below v6.heap.size v6 Y from by rw [hY]; exact HB9.out.setCell (p := ⟨wr.heap.size, n - 1, none⟩) (by rw [← HG8.out]; show g8 ≤ wr.heap.size; omega) _)
      generalize wr.heap.size = gI at *
      rw [← hY]
      clear hY q9 c9 r9 s9 h9 z9 ho9 hb9 HI9 HA9 HB9 HX9 HO l9 l6
      refine (writeQ23 aC aR aE a _ 2 2 3 c (vsK k) k (vsK_length k) (by omega) (vsK_in (by omega)) Y (HP.out.below HBY.out) HAY.out).mono ?_
      rintro e w11 ⟨a11, c11, rfl, hown, hb11⟩
      have HH11 := Lib.hid (has_of_owns hown)
      have HY11 := Lib.hid hb11
      clear hown hb11
      have hbl : (stackB planQ23 (vsK k)).length = 72 + 2 * k := by rw [stackS_length, vsK_length]
      have hok : QOk (stackB planQ23 (vsK k)) 9 rsP 2 := stkOk (vsK k) 9 (k - 1) (by rw [vsK_length]; omega) (by rw [List.getD_eq_getElem?_getD, vsK_get (by omega), if_pos (by omega), Option.getD_some]; unfold u16Z; omega)
      have hlong := stk_long n k (by omega) (by omega) (by omega)
      have hLn : (stackD (stackB planQ23 (vsK k)) rsP ((stackB planQ23 (vsK k)).drop (num (stackB planQ23 (vsK k)) 16 4)) false false (newG (idsQ n)) (newP (List.replicate n 0))).1.2.length = n := by rw [(stackD_ok _ _ _ _ _ _ _ (newP_in _)).2, newP_length, List.length_replicate]
      have hidw := newG_idsC (ids := idsQ n) (fun z hz => by
        rcases List.mem_append.1 hz with hz | hz
        · rw [List.eq_of_mem_replicate hz]; decide
        · simp at hz; subst hz; decide)
      have HRD := Lib.hid (qread_some a11 (72 + 2 * k) c11 (stackB planQ23 (vsK k)) 9 9 rfl rsP 2 w11 HH11.out hbl (by omega) (by decide) (by decide) hok)
      have HRUN := Lib.hid (fun (B Bm gt gl : Nat) (a : Option Addr) (c : Nat) (Bl gp : Nat) (ap : Option Addr) (cp : Nat) (W : World) (hT : QIs 0 Bm gt (stackB planQ23 (vsK k)) rsP 2 W) (hG : GIs Bl gl a c (newG (idsQ n)) W) (hP : PlIs B gp (decide ((0 : Int) = 2)) ap cp (newP (List.replicate n 0)) W) (hB : B ≤ W.heap.size) => qrun_any 0 Bm gt (stackB planQ23 (vsK k)) 9 rsP 2 B Bl gl a c (newG (idsQ n)) gp (decide ((0 : Int) = 2)) false ap cp (newP (List.replicate n 0)) W hT hok (by decide) (by decide) (Nat.zero_le _) hG hP (newP_in _) hB hidw (by rw [newG_length, idsQ_length n (by omega)]; omega))
      rw [show decide ((0 : Int) = 2) = false from rfl] at HRUN
      generalize stackD (stackB planQ23 (vsK k)) rsP ((stackB planQ23 (vsK k)).drop (num (stackB planQ23 (vsK k)) 16 4)) false false (newG (idsQ n)) (newP (List.replicate n 0)) = RR at *
      obtain ⟨⟨_, R⟩, _, E⟩ := RR
      simp only at hlong hLn HRUN
      obtain ⟨rfl, hR⟩ := hlong
      have HR := Lib.hid hR
      have HIL := Lib.hid (idsQ_length n (by omega))
      clear hR hok hidw hbl
      generalize stackB planQ23 (vsK k) = bs at *
      go_wp2_with (first
        | (go_at_call 29; (with_reducible refine HRD.out.mono ?_); rintro e w12 ⟨gt, rfl, hT, hb12⟩; have HT := Lib.hid hT; have HY12 := Lib.hid (HY11.out.trans (hb12.mono HY11.out.size)); clear hT hb12)
        | (at_make; refine wpMake _ rfl _ _ 23 rfl w12.heap.size 3 (.int .i64 0) 1 8 Try.underlying23 info_int n rfl rfl (by omega) (by unfold maxLen; omega) (Nat.le_refl _) ?_; intro w13 ho13 hb13; rw [made_ivK] at ho13; have HN13 := Lib.hid (has_of_owns ho13); have HT13 := Lib.hid (HT.out.below hb13); have HY13 := Lib.hid (HY12.out.trans (hb13.mono HY12.out.size)); clear ho13 hb13)
        | (go_at_call 31; (with_reducible refine (pnew_any 0 _ n n _ w13 HN13.out (by simp) (by omega)).mono ?_); rintro e w14 ⟨gp, ap, cp, rfl, hP, hgp, hb14⟩; have HP14 := Lib.hid hP; have HT14 := Lib.hid (HT13.out.below hb14); have HY14 := Lib.hid (HY13.out.trans (hb14.mono HY13.out.size)); have HZ14 := Lib.hid hb14.size; clear hP hgp hb14)
        | (go_at_call 15; (with_reducible refine (gnew_any (some ⟨gI, 0, none⟩) n n (idsQ n) w14 (HIY.out.below HY14.out) HIL.out (by omega)).mono ?_); rintro e w15 ⟨gx, ax, cx, rfl, hGx, hgx, hb15⟩; have HGX := Lib.hid hGx; have HT15 := Lib.hid (HT14.out.below hb15); have HP15 := Lib.hid (HP14.out.below hb15); have HY15 := Lib.hid (HY14.out.trans (hb15.mono HY14.out.size)); have HZ15 := Lib.hid (Nat.le_trans HZ14.out hb15.size); clear hGx hgx hb15)
        | (go_at_call 33; (refine (HRUN.out _ _ _ _ _ _ _ _ _ _ w15 HT15.out HGX.out HP15.out HZ15.out).mono ?_); rintro e w16 ⟨rfl, hp16, hk16⟩; have HP16 := Lib.hid hp16; have HY16 := Lib.hid (HY15.out.trans (hk16.below.mono HY13.out.size)); clear hp16 hk16))
      go_wp2_with (go_at_call 34; (with_reducible refine (pall_any _ gp _ ap cp R w16 HP16.out (by simp only [hLn]; omega)).mono ?_); rintro e w17 ⟨a17, c17, rfl, ho17, _, _, _, hb17⟩; have HO17 := Lib.hid (has_of_owns ho17); have HY17 := Lib.hid (HY16.out.trans (hb17.mono HY16.out.size)); clear ho17 hb17)
      (try rw [hLn])
      go_loopw [91] (fun i wr => ∃ q : Nat, q ≤ n ∧ i = .int .i64 (q : Nat) ∧ Below w17.heap.size w17 wr) (fun i _ => n - (Go.RowKit.intOf i).toNat)
      case atStart => exact ⟨0, Nat.zero_le _, rfl, Below.refl _ _⟩
      case round =>
        obtain ⟨q, hq, rfl, hb⟩ := hrel
        rename World => wz
        have HBR := Lib.hid hb
        have hrz := hb.size
        clear hb
        by_cases hlt : q < n
        · obtain ⟨ge, oe, t, rfl, hge, ht, e0, e1, e2⟩ := pv_at (HO17.out.below HBR.out) (k := q) (by rw [hLn]; exact hlt)
          have ht2 := HR.out q hlt
          rw [ht] at ht2
          injection ht2 with ht2
          obtain ⟨t1, t2, t3⟩ := t
          simp only at e0 e1 e2
          injection ht2 with ht3 ht4
          injection ht4 with ht4 ht5
          subst ht4 ht5
          have g1 : IntKind.i64.wrap (((n - 1 : Nat) : Int) - (q : Int)) = ((n - 1 - q : Nat) : Int) := by rw [IntWalk.i64_in _ (by omega)]; omega
          have HREL := Lib.hid (show ∀ V, Below wz.heap.size wz V → ∃ j : Nat, j ≤ n ∧ Value.int .i64 ((q : Int) + 1) = .int .i64 (j : Nat) ∧ Below w17.heap.size w17 V from fun V hV => ⟨q + 1, hlt, by go_num, HBR.out.trans (hV.mono HBR.out.size)⟩)
          obtain ⟨b, hb⟩ : ∃ b, b = n - 1 - q := ⟨_, rfl⟩
          rw [← hb] at ht3 g1
          have hbn : b ≤ 19 := by omega
          clear hb ht HR
          have g2 : IntKind.i64.wrap ((b : Int) + 1) = (b : Int) + 1 := IntWalk.i64_in _ (by omega)
          have g3 : IntKind.i64.wrap (2 * ((b : Int) + 1)) = 2 * ((b : Int) + 1) := IntWalk.i64_in _ (by omega)
          by_cases hbk : b < min k 8
          · rw [if_pos hbk] at ht3
            obtain rfl : t1 = 2 * ((b : Int) + 1) := by omega
            have d1 : decide ((b : Int) < min (k : Int) 8) = true := by simp; omega
            have g4 : IntKind.i32.wrap (2 * ((b : Int) + 1)) = 2 * ((b : Int) + 1) := by simp only [IntKind.wrap, IntKind.bits, IntKind.signed]; simp; omega
            have hne := nePl (2 * ((b : Int) + 1)) (by omega)
            clear hbk ht3
            go_wp2_with fail
            go_roundw
            case rel => exact HREL.out _ (by exact blw)
            case measure => simp [Go.RowKit.intOf]; omega
          · rw [if_neg hbk] at ht3
            subst ht3
            have d1 : decide ((b : Int) < min (k : Int) 8) = false := by simp; omega
            have hne := nePl 0 (by omega)
            clear hbk
            go_wp2_with fail
            go_roundw
            case rel => exact HREL.out _ (by exact blw)
            case measure => simp [Go.RowKit.intOf]; omega
        · obtain rfl : n = q := by omega
          have HBW := Lib.hid (HB6.out.trans ((HBY.out.trans ((HY17.out.trans (HBR.out.mono HY17.out.size)).mono HBY.out.size)).mono HB6.out.size))
          clear hlt
          go_wp2_with fail
          go_ret
          exact ⟨rfl, HBW.out⟩

open Go.ChangeShapes Go.WideShapes Go.ChangeAt Go.RowKit
open Go.ChangeMaps (open_string shut_string)

set_option maxRecDepth 100000 in
theorem stackLong_walks (H : Type) (enc : TypeId × Value → H) : Walks H enc 7 [5, 5] := by
  intro W base args ds p hval hA _
  obtain ⟨v0, vs0, d0, ds0, p0, q0, hargs, rfl, rfl, h0, r0⟩ := trodAll_cons hA
  obtain ⟨v1, vs1, d1, ds1, p1, q1, rfl, rfl, rfl, h1, r1⟩ := trodAll_cons r0
  obtain ⟨rfl, rfl, rfl⟩ := trodAll_nil r1
  obtain rfl : args = #[v0, v1] := by cases args; simp_all
  obtain ⟨z0, rfl, t0⟩ := open_int Try.underlying5 (hval 0 5 v0 rfl rfl) h0
  obtain ⟨x, rfl, hx⟩ := wf_u8 t0
  obtain ⟨z1, rfl, t1⟩ := open_int Try.underlying5 (hval 1 5 v1 rfl rfl) h1
  obtain ⟨y, rfl, hy⟩ := wf_u8 t1
  exact stackLong_walk x y hx hy W

set_option maxRecDepth 100000 in
theorem stackLong_lifted (os : Os) (started : os.Started) (H : Type) (enc : TypeId × Value → H) :
    ReturnsInHanded {} Try.checked os 7 .any (Rows.stackLongSpec.pre6 enc Try.prog Try.f7 Rows.stackLongRow.domain false) (Rows.stackLongSpec.post enc Try.prog Try.f7 false true false false) :=
  lift_law (s := Rows.stackLongSpec) (fn := Try.f7) started (by kernel_rfl) Try.func7
    (ChangeSpec.witness6 (enc := enc) (C := Try.checked) false ⟨#[], #[.int .u8 0, .int .u8 0], []⟩ 8 (by kernel_rfl) (by kernel_rfl) (by kernel_rfl) (by kernel_rfl))
    rfl rfl (fun ds h => by match ds, h with | [d0, d1], _ => rfl) (by intro t ht; simp [Try.params7] at ht; first | (subst ht; exact ⟨by kernel_rfl, of_decide_eq_true (by kernel_rfl)⟩) | (obtain rfl | rfl := ht <;> exact ⟨by kernel_rfl, of_decide_eq_true (by kernel_rfl)⟩) | (obtain rfl | rfl | rfl := ht <;> exact ⟨by kernel_rfl, of_decide_eq_true (by kernel_rfl)⟩) | (obtain rfl | rfl | rfl | rfl := ht <;> exact ⟨by kernel_rfl, of_decide_eq_true (by kernel_rfl)⟩))
    (by rw [Try.params7]; exact stackLong_walks H enc)
theorem stackLong_over : Rows.stackLongRow.holds Try.pinned (OpenSpec.ofChange Rows.stackLongSpec) :=
  OpenClaim.holds_of_wide 7 Try.f7 rfl rfl rfl rfl rfl rfl rfl ⟨rfl, rfl, rfl, rfl, rfl⟩ rfl rfl rfl rfl rfl (by kernel_rfl) Try.func7 (by kernel_rfl)
    (of_decide_eq_true (by kernel_rfl)) (by unfold Func.isWrapper; first | (rw [if_pos (by decide +kernel)]; kernel_rfl) | (rw [if_neg (by decide +kernel)]; exact ⟨rfl, rfl⟩))
    (fun os started H enc _ => stackLong_lifted os started H enc)
theorem stackLong_proved : Rows.StackLongSaid := stackLong_over
#print axioms stackLong_proved
end Go.Proofs.Ytaladlaffglkeaa
