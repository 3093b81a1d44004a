/- Contract of the law's 'cut' itself. Conditions: the slice's, that the kind is one of three, and that the numbers are ints. -/
import Derived.Test.YtfgkmgabldjpaaaCut
import Derived.Test.YtfgkmgabldjpaaaTry
namespace Go.Proofs.Ytfgkmgabldjpaaa
open Go.RowKit

/-- What 'cut' answers: so many bytes of its own, their number, and true; or nothing. -/
def CutsR (w : World) (xs : List UInt8) (is : Prop) (e : Ending) (w' : World) : Prop :=
  (is ∧ ∃ a c, e = .returned (.tuple #[.slice a xs.length c, .int .i64 xs.length, .bool true]) ∧ w'.ownsRow w.heap.size 5 1 (.slice a xs.length c) xs.length (bytesV xs) ∧ xs.length ≤ c ∧ c ≤ maxLen ∧ (a = none → c = 0) ∧ Below w.heap.size w w') ∨
  (¬ is ∧ e = .returned (.tuple #[.slice none 0 0, .int .i64 0, .bool false]) ∧ Below w.heap.size w w')

set_option maxRecDepth 100000 in
set_option maxHeartbeats 1600000 in
theorem cut_any (kd : Nat) (hkd : kd ≤ 2) (a : Option Addr) (n c : Nat) (bs : List UInt8) (k m s : Int) (w : World) (h : Has w a (bytesV bs)) (hl : bs.length = n) (hn : n ≤ c) (hc : c ≤ maxLen) (hm : n ≤ 1000)
    (hs1 : m ≤ 9223372036854775807) (hs2 : s ≤ 9223372036854775807) :
    Calls Try.prog 17 #[.slice a n c, .int .i64 kd, .agg #[.int .i64 k, .int .i64 m, .int .i64 s]] w (CutsR w ((bs.drop k.toNat).take (lenK n kd k m s)) (fitK n kd k m s)) := by
  obtain ⟨is, his⟩ : ∃ is : Prop, is = fitK n kd k m s := ⟨_, rfl⟩
  obtain ⟨xs, hxs⟩ : ∃ xs, xs = (bs.drop k.toNat).take (lenK n kd k m s) := ⟨_, rfl⟩
  rw [← his, ← hxs]
  have HI := Lib.hid his
  have HX := Lib.hid hxs
  have HH := Lib.hid h
  have HL := Lib.hid hl
  clear h hl his hxs
  have hAC := allocC
  have hAF := allocF
  have hmf : ∀ (fn : Fn) (first cap : Array Value) (w : World), (Instr.makeFunc fn first cap).run Try.prog w = .ok (.func fn first cap) w := fun _ _ _ _ => rfl
  go_enter Try.func17, Try.ntmps17
  go_wp2_with fail
  obtain ⟨W, hW⟩ : ∃ W, W = ((((w.alloc (Obj.cells #[.slice a n c] 22)).alloc (Obj.cells #[.int .i64 kd] 3)).alloc (Obj.cells #[.int .i64 k, .int .i64 m, .int .i64 s] 30)).alloc (Obj.cells #[.slice none 0 0] 22)).alloc (Obj.cells #[.int .i64 0] 3) := ⟨_, rfl⟩
  have hb : Below w.heap.size w W := by rw [hW]; exact (by repeat (first | exact brefl _ | assumption | refine balloc ?_ _ | refine bdrew ?_ _ | refine bdrew1 ?_ | refine bthen ?_ (by assumption) | refine Below.trans ?_ (by assumption) | (refine bset ?_ (by first | (simp; done) | (simp; omega)) _)))
  have hz : W.heap.size = w.heap.size + 1 + 1 + 1 + 1 + 1 := by rw [hW]; simp
  have c0 : W.cell? ⟨w.heap.size, 0, none⟩ = some (.slice a n c) := by
    have z1 : ¬ w.heap.size = w.heap.size + 1 + 1 + 1 + 1 := by omega
    have z2 : ¬ w.heap.size = w.heap.size + 1 + 1 + 1 := by omega
    have z3 : ¬ w.heap.size = w.heap.size + 1 + 1 := by omega
    rw [hW]; simp [hAC, z1, z2, z3]
  have c1 : W.cell? ⟨w.heap.size + 1, 0, none⟩ = some (.int .i64 kd) := by rw [hW]; simp [hAC]
  have d0 : W.cell? ⟨w.heap.size + 1 + 1, 0, none⟩ = some (.int .i64 k) := by rw [hW]; simp [hAC]
  have d1 : W.cell? ⟨w.heap.size + 1 + 1, 1, none⟩ = some (.int .i64 m) := by rw [hW]; simp [hAC]
  have d2 : W.cell? ⟨w.heap.size + 1 + 1, 2, none⟩ = some (.int .i64 s) := by rw [hW]; simp [hAC]
  have c4 : W.cell? ⟨w.heap.size + 1 + 1 + 1, 0, none⟩ = some (.slice none 0 0) := by rw [hW]; simp [hAC]
  have f4 : W.frozen? ⟨w.heap.size + 1 + 1 + 1, 0, none⟩ = false := by rw [hW]; simp [hAF]
  have c5 : W.cell? ⟨w.heap.size + 1 + 1 + 1 + 1, 0, none⟩ = some (.int .i64 0) := by rw [hW]; simp [hAC]
  have f5 : W.frozen? ⟨w.heap.size + 1 + 1 + 1 + 1, 0, none⟩ = false := by rw [hW]; simp [hAF]
  rw [← hW]
  clear hW
  refine (try_any _ _ _ (fun ok w' => (ok = true ↔ fitK n kd k m s) ∧ CutR W (w.heap.size + 1 + 1 + 1) (w.heap.size + 1 + 1 + 1 + 1) ((bs.drop k.toNat).take (lenK n kd k m s)) ok w') (enter_cut1 _)
    ((cut1_any kd hkd a n c bs k m s _ _ _ _ _ _ _ _ (HH.out.below hb) HL.out hn hc hm hs1 hs2 (by omega) (by omega) (by omega) (by omega) (by omega) (by omega) (by omega) c0 c1 d0 d1 d2 c4 f4 c5 f5).mono fun e w' h => by
      rcases h with ⟨h1, h2, h3⟩ | ⟨h1, h2, h3⟩
      · exact .inl ⟨h1, by simp [h2], h3⟩
      · exact .inr ⟨h1, by simp [h2], h3⟩)).mono ?_
  rw [← HX.out]
  clear c0 c1 d0 d1 d2
  rintro e w2 ⟨ok, rfl, hk, hr⟩
  have l4 := cell_lt c4
  have l5 := cell_lt c5
  simp only at l4 l5
  have l4' : w.heap.size ≤ w.heap.size + 1 + 1 + 1 := by omega
  have l5' : w.heap.size ≤ w.heap.size + 1 + 1 + 1 + 1 := by omega
  have l45 : ¬ w.heap.size + 1 + 1 + 1 = w.heap.size + 1 + 1 + 1 + 1 := by omega
  generalize w.heap.size + 1 + 1 + 1 + 1 = g5 at *
  generalize w.heap.size + 1 + 1 + 1 = g4 at *
  have HB := Lib.hid hb
  have hz' : w.heap.size ≤ W.heap.size := hb.size
  rcases hr with ⟨rfl, W1, a1, c1, hb1, hown, k1, k2, k3, hw2⟩ | ⟨rfl, hb2⟩
  · have e4 := (hb1.cell (p := ⟨g4, 0, none⟩) l4).trans c4
    have e5 := (hb1.cell (p := ⟨g5, 0, none⟩) l5).trans c5
    have q4 := (hb1.frozen (p := ⟨g4, 0, none⟩) l4).trans f4
    have q5 := (hb1.frozen (p := ⟨g5, 0, none⟩) l5).trans f5
    have v4 : w2.cell? ⟨g4, 0, none⟩ = some (.slice a1 xs.length c1) := by rw [hw2]; simp [go_sem, e4, l45]
    have v5 : w2.cell? ⟨g5, 0, none⟩ = some (.int .i64 xs.length) := by rw [hw2]; simp [go_sem, e5, l45]
    have u4 : w2.frozen? ⟨g4, 0, none⟩ = false := by rw [hw2]; simp [q4]
    have u5 : w2.frozen? ⟨g5, 0, none⟩ = false := by rw [hw2]; simp [q5]
    have hlt4 : g4 < w2.heap.size := by have := cell_lt v4; simpa using this
    have hlt5 : g5 < w2.heap.size := by have := cell_lt v5; simpa using this
    have HB2 : Below w.heap.size w w2 := by rw [hw2]; exact (by repeat (first | exact brefl _ | assumption | refine balloc ?_ _ | refine bdrew ?_ _ | refine bdrew1 ?_ | refine bthen ?_ (by assumption) | refine Below.trans ?_ (by assumption) | (refine bset ?_ (by first | (simp; done) | (simp; omega)) _)))
    have HO := Lib.hid (show w2.ownsRow W.heap.size 5 1 (.slice a1 xs.length c1) xs.length (bytesV xs) by
      rw [hw2]; exact ownsRow_setCell_below (ownsRow_setCell_below hown l4 _) l5 _)
    have HK := Lib.hid (hk.1 rfl)
    have HB2' := Lib.hid HB2
    have H3 := Lib.hid k3
    clear hk hown hw2 e4 e5 q4 q5 c4 c5 f4 f5 hb hb1 HB2 k3 hz
    go_wp2_with fail
    refine wp_region_tree (.step 0 (.step 1 (.step 2 (.step 3 (.step 4 (.step 5 .nil)))))) (by kernel_rfl) (by kernel_rfl) (by kernel_rfl) (by kernel_rfl) (by intro _ _ d_ _ _ h_; cases d_ <;> first | exact h_ | (dsimp +zetaDelta only at h_ ⊢; exact h_)) (fun w' => ∃ p : Pin w2 [g4, g5] [(g4, (Value.slice a1 xs.length c1)), (g5, (Value.int .i64 xs.length))], w' = p.val) (pin_start _ (by simp only [List.mem_cons, List.not_mem_nil, or_false]; (first | (rintro c_ rfl; assumption) | (rintro c_ (rfl | rfl) <;> assumption) | (rintro c_ (rfl | rfl | rfl) <;> assumption)))) ?_
    have hP0_ : ∀ p : Pin w2 [g4, g5] [(g4, (Value.slice a1 xs.length c1)), (g5, (Value.int .i64 xs.length))], p.val.cell? ⟨g4, 0, none⟩ = some (Value.slice a1 xs.length c1) := pinC2a
    have hP1_ : ∀ p : Pin w2 [g4, g5] [(g4, (Value.slice a1 xs.length c1)), (g5, (Value.int .i64 xs.length))], p.val.cell? ⟨g5, 0, none⟩ = some (Value.int .i64 xs.length) := pinC2b
    have hN_ : Nonempty (Pin w2 [g4, g5] [(g4, (Value.slice a1 xs.length c1)), (g5, (Value.int .i64 xs.length))]) := Exists.elim (pin_start [g4, g5] (by simp only [List.mem_cons, List.not_mem_nil, or_false]; (first | (rintro c_ rfl; assumption) | (rintro c_ (rfl | rfl) <;> assumption) | (rintro c_ (rfl | rfl | rfl) <;> assumption)))) (fun p_ _ => ⟨p_⟩)
    (refine tree_quiet (by simp only [List.getElem?_toArray, List.getElem?_cons_succ, List.getElem?_cons_zero]; rfl) (by rfl) (by rfl) (fun K_ hK_ => ?_); go_big_quiet_op; refine hK_ _ ?_; clear hK_ K_)
    (refine tree_quiet (by simp only [List.getElem?_toArray, List.getElem?_cons_succ, List.getElem?_cons_zero]; rfl) (by rfl) (by rfl) (fun K_ hK_ => ?_); go_big_quiet_op; refine hK_ _ ?_; clear hK_ K_)
    (refine tree_quiet (by simp only [List.getElem?_toArray, List.getElem?_cons_succ, List.getElem?_cons_zero]; rfl) (by rfl) (by rfl) (fun K_ hK_ => ?_); go_big_quiet_op; refine hK_ _ ?_; clear hK_ K_)
    (refine tree_run (by simp only [List.getElem?_toArray, List.getElem?_cons_succ, List.getElem?_cons_zero]; rfl) (by rfl) (by rfl) (fun K_ hK_ => ?_); have HK_ := Lib.hid hK_; clear hK_; go_wp2_with (fail); refine HK_.out _ _ (pin_of (by repeat (first | exact same_below (brefl _) | exact same_below (bdrew1 (brefl _)) | assumption | refine same_drew ?_ | refine same_then ?_ (by assumption) | refine same_alloc ?_ _ | (refine same_set ?_ (by first | (left; simp; done) | (right; simp; done) | (right; simp; omega)) _))) (by simp only [List.mem_cons, List.not_mem_nil, or_false]; (first | (rintro c_ rfl; simp [go_sem, *]; done) | (rintro c_ (rfl | rfl) <;> simp [go_sem, *] <;> done)))) ?_; clear HK_)
    (refine tree_run (by simp only [List.getElem?_toArray, List.getElem?_cons_succ, List.getElem?_cons_zero]; rfl) (by rfl) (by rfl) (fun K_ hK_ => ?_); have HK_ := Lib.hid hK_; clear hK_; go_wp2_with (fail); refine HK_.out _ _ (pin_of (by repeat (first | exact same_below (brefl _) | exact same_below (bdrew1 (brefl _)) | assumption | refine same_drew ?_ | refine same_then ?_ (by assumption) | refine same_alloc ?_ _ | (refine same_set ?_ (by first | (left; simp; done) | (right; simp; done) | (right; simp; omega)) _))) (by simp only [List.mem_cons, List.not_mem_nil, or_false]; (first | (rintro c_ rfl; simp [go_sem, *]; done) | (rintro c_ (rfl | rfl) <;> simp [go_sem, *] <;> done)))) ?_; clear HK_)
    (refine tree_quiet (by simp only [List.getElem?_toArray, List.getElem?_cons_succ, List.getElem?_cons_zero]; rfl) (by rfl) (by rfl) (fun K_ hK_ => ?_); go_big_quiet_op; refine hK_ _ ?_; clear hK_ K_)
    refine tree_nil ?_
    clear hP0_ hP1_ hN_
    go_wp2
    refine bodyPost_ret (v := .tuple #[.slice a1 xs.length c1, .int .i64 xs.length, .bool true]) (by simp [results, Try.results17, go_sem, v4, v5, l45]) rfl (.inl ⟨by rw [HI.out]; exact HK.out, a1, c1, rfl, ?_, k1, k2, H3.out, ?_⟩)
    · exact owns_mono (owns_below (ownsRow_setCell_below (ownsRow_setCell_below HO.out l4 _) l5 _) (bdrew1 (brefl _)) (Nat.le_refl _)) hz'
    · exact ((HB2'.out.setCell l4' _).setCell l5' _).drew
  · have e4 := (hb2.cell (p := ⟨g4, 0, none⟩) l4).trans c4
    have e5 := (hb2.cell (p := ⟨g5, 0, none⟩) l5).trans c5
    have u4 := (hb2.frozen (p := ⟨g4, 0, none⟩) l4).trans f4
    have u5 := (hb2.frozen (p := ⟨g5, 0, none⟩) l5).trans f5
    have hlt4 : g4 < w2.heap.size := by have := cell_lt e4; simpa using this
    have hlt5 : g5 < w2.heap.size := by have := cell_lt e5; simpa using this
    have HB2' := Lib.hid (HB.out.trans (hb2.mono hz'))
    have HK := Lib.hid hk
    clear hk c4 c5 f4 f5 hb hb2 hz
    go_wp2_with fail
    refine wp_region_tree (.step 0 (.step 1 (.step 2 (.step 3 (.step 4 (.step 5 .nil)))))) (by kernel_rfl) (by kernel_rfl) (by kernel_rfl) (by kernel_rfl) (by intro _ _ d_ _ _ h_; cases d_ <;> first | exact h_ | (dsimp +zetaDelta only at h_ ⊢; exact h_)) (fun w' => ∃ p : Pin w2 [g4, g5] [(g4, (Value.slice none 0 0)), (g5, (Value.int .i64 0))], w' = p.val) (pin_start _ (by simp only [List.mem_cons, List.not_mem_nil, or_false]; (first | (rintro c_ rfl; assumption) | (rintro c_ (rfl | rfl) <;> assumption) | (rintro c_ (rfl | rfl | rfl) <;> assumption)))) ?_
    have hP0_ : ∀ p : Pin w2 [g4, g5] [(g4, (Value.slice none 0 0)), (g5, (Value.int .i64 0))], p.val.cell? ⟨g4, 0, none⟩ = some (Value.slice none 0 0) := pinC2a
    have hP1_ : ∀ p : Pin w2 [g4, g5] [(g4, (Value.slice none 0 0)), (g5, (Value.int .i64 0))], p.val.cell? ⟨g5, 0, none⟩ = some (Value.int .i64 0) := pinC2b
    have hN_ : Nonempty (Pin w2 [g4, g5] [(g4, (Value.slice none 0 0)), (g5, (Value.int .i64 0))]) := Exists.elim (pin_start [g4, g5] (by simp only [List.mem_cons, List.not_mem_nil, or_false]; (first | (rintro c_ rfl; assumption) | (rintro c_ (rfl | rfl) <;> assumption) | (rintro c_ (rfl | rfl | rfl) <;> assumption)))) (fun p_ _ => ⟨p_⟩)
    (refine tree_quiet (by simp only [List.getElem?_toArray, List.getElem?_cons_succ, List.getElem?_cons_zero]; rfl) (by rfl) (by rfl) (fun K_ hK_ => ?_); go_big_quiet_op; refine hK_ _ ?_; clear hK_ K_)
    (refine tree_quiet (by simp only [List.getElem?_toArray, List.getElem?_cons_succ, List.getElem?_cons_zero]; rfl) (by rfl) (by rfl) (fun K_ hK_ => ?_); go_big_quiet_op; refine hK_ _ ?_; clear hK_ K_)
    (refine tree_quiet (by simp only [List.getElem?_toArray, List.getElem?_cons_succ, List.getElem?_cons_zero]; rfl) (by rfl) (by rfl) (fun K_ hK_ => ?_); go_big_quiet_op; refine hK_ _ ?_; clear hK_ K_)
    (refine tree_run (by simp only [List.getElem?_toArray, List.getElem?_cons_succ, List.getElem?_cons_zero]; rfl) (by rfl) (by rfl) (fun K_ hK_ => ?_); have HK_ := Lib.hid hK_; clear hK_; go_wp2_with (fail); refine HK_.out _ _ (pin_of (by repeat (first | exact same_below (brefl _) | exact same_below (bdrew1 (brefl _)) | assumption | refine same_drew ?_ | refine same_then ?_ (by assumption) | refine same_alloc ?_ _ | (refine same_set ?_ (by first | (left; simp; done) | (right; simp; done) | (right; simp; omega)) _))) (by simp only [List.mem_cons, List.not_mem_nil, or_false]; (first | (rintro c_ rfl; simp [go_sem, *]; done) | (rintro c_ (rfl | rfl) <;> simp [go_sem, *] <;> done)))) ?_; clear HK_)
    (refine tree_run (by simp only [List.getElem?_toArray, List.getElem?_cons_succ, List.getElem?_cons_zero]; rfl) (by rfl) (by rfl) (fun K_ hK_ => ?_); have HK_ := Lib.hid hK_; clear hK_; go_wp2_with (fail); refine HK_.out _ _ (pin_of (by repeat (first | exact same_below (brefl _) | exact same_below (bdrew1 (brefl _)) | assumption | refine same_drew ?_ | refine same_then ?_ (by assumption) | refine same_alloc ?_ _ | (refine same_set ?_ (by first | (left; simp; done) | (right; simp; done) | (right; simp; omega)) _))) (by simp only [List.mem_cons, List.not_mem_nil, or_false]; (first | (rintro c_ rfl; simp [go_sem, *]; done) | (rintro c_ (rfl | rfl) <;> simp [go_sem, *] <;> done)))) ?_; clear HK_)
    (refine tree_quiet (by simp only [List.getElem?_toArray, List.getElem?_cons_succ, List.getElem?_cons_zero]; rfl) (by rfl) (by rfl) (fun K_ hK_ => ?_); go_big_quiet_op; refine hK_ _ ?_; clear hK_ K_)
    refine tree_nil ?_
    clear hP0_ hP1_ hN_
    go_wp2
    refine bodyPost_ret (v := .tuple #[.slice none 0 0, .int .i64 0, .bool false]) (by simp [results, Try.results17, go_sem, e4, e5, l45]) rfl (.inr ⟨(by rw [HI.out]; intro h; exact nomatch HK.out.2 h), rfl, ?_⟩)
    exact ((HB2'.out.setCell l4' _).setCell l5' _).drew
end Go.Proofs.Ytfgkmgabldjpaaa
