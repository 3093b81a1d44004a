/- Contracts of the law's 'cut': a piece of bytes, cut three ways, or that it was thrown. Conditions: the slice's, and that the kind is one of three. -/
import Derived.Test.YtfgkmgabldjpaaaOwn
import Derived.Test.YtfgkmgabldjpaaaTree
namespace Go.Proofs.Ytfgkmgabldjpaaa
open Go.RowKit

/-- Is there such a piece? -/
def fitK (n : Nat) (kind : Nat) (k m s : Int) : Prop := match kind with
  | 0 => 0 ≤ k ∧ 0 ≤ m ∧ k ≤ n ∧ m ≤ n - k
  | 1 => 0 ≤ k ∧ k ≤ n
  | _ => 0 ≤ k ∧ k ≤ n ∧ 0 ≤ m ∧ 0 ≤ s ∧ (s = 0 ∨ m.toNat ≤ (n - k.toNat) / s.toNat)
/-- How many bytes it has. -/
def lenK (n : Nat) (kind : Nat) (k m s : Int) : Nat := match kind with
  | 0 => m.toNat
  | 1 => n - k.toNat
  | _ => m.toNat * s.toNat
theorem lenK_le {n kind : Nat} {k m s : Int} (h : fitK n kind k m s) : 0 ≤ k ∧ k.toNat + lenK n kind k m s ≤ n := by
  unfold fitK at h
  unfold lenK
  match kind with
  | 0 => simp only at h ⊢; omega
  | 1 => simp only at h ⊢; omega
  | kind + 2 =>
    simp only at h ⊢
    obtain ⟨h1, h2, h3, h4, h5⟩ := h
    have : m.toNat * s.toNat ≤ n - k.toNat := by
      rcases h5 with rfl | h
      · simp
      · exact Nat.le_trans (Nat.mul_le_mul_right _ h) (Nat.div_mul_le_self _ _)
    omega

/-- How a function that is tried leaves the cells of bytes and of their number. -/
def CutR (W : World) (g4 g5 : Nat) (bs : List UInt8) (ok : Bool) (w' : World) : Prop :=
  (ok = true ∧ ∃ W1 a c, Below W.heap.size W W1 ∧ W1.ownsRow W.heap.size 5 1 (.slice a bs.length c) bs.length (bytesV bs) ∧ bs.length ≤ c ∧ c ≤ maxLen ∧ (a = none → c = 0) ∧ w' = (W1.setCell ⟨g4, 0, none⟩ (.slice a bs.length c)).setCell ⟨g5, 0, none⟩ (.int .i64 bs.length)) ∨ (ok = false ∧ Below W.heap.size W w')

set_option maxRecDepth 100000 in
set_option maxHeartbeats 1600000 in
theorem cut1_in0 (a : Option Addr) (n c : Nat) (bs : List UInt8) (k m s : Int) (g0 g1 g2 g4 g5 : Nat) (x y : Value) (w : World) (h : Has w a (bytesV bs)) (hl : bs.length = n) (hn : n ≤ c) (hc : c ≤ maxLen) (hm : n ≤ 1000)
    (hs1 : m ≤ 9223372036854775807) (hs2 : s ≤ 9223372036854775807) (hf : fitK n 0 k m s) (n0 : ¬ g0 = g4) (n1 : ¬ g1 = g4) (n2 : ¬ g2 = g4) (n3 : ¬ g0 = g5) (n4 : ¬ g1 = g5) (n5 : ¬ g2 = g5) (n6 : ¬ g4 = g5)
    (c0 : w.cell? ⟨g0, 0, none⟩ = some (.slice a n c)) (c1 : w.cell? ⟨g1, 0, none⟩ = some (.int .i64 ((0 : Nat) : Int))) (d0 : w.cell? ⟨g2, 0, none⟩ = some (.int .i64 k)) (d1 : w.cell? ⟨g2, 1, none⟩ = some (.int .i64 m)) (d2 : w.cell? ⟨g2, 2, none⟩ = some (.int .i64 s))
    (c4 : w.cell? ⟨g4, 0, none⟩ = some x) (f4 : w.frozen? ⟨g4, 0, none⟩ = false) (c5 : w.cell? ⟨g5, 0, none⟩ = some y) (f5 : w.frozen? ⟨g5, 0, none⟩ = false) :
    Calls Try.prog 35 #[.pointer (some ⟨g0, 0, none⟩), .pointer (some ⟨g1, 0, none⟩), .pointer (some ⟨g2, 0, none⟩), .pointer (some ⟨g4, 0, none⟩), .pointer (some ⟨g5, 0, none⟩)] w fun e w' =>
      e = .returned (.tuple #[]) ∧ CutR w g4 g5 ((bs.drop k.toNat).take (lenK n 0 k m s)) true w' := by
  have HH := Lib.hid h
  have HL := Lib.hid hl
  have l0 := cell_lt c0
  have l1 := cell_lt c1
  have l2 := cell_lt d0
  have l4 := cell_lt c4
  have l5 := cell_lt c5
  simp only at l0 l1 l2 l4 l5
  clear h hl
  obtain ⟨hk0, hkl⟩ := lenK_le hf
  obtain ⟨j, rfl⟩ : ∃ j : Nat, k = j := ⟨k.toNat, by omega⟩
  simp only [Int.toNat_natCast] at hkl ⊢
  have hB : Has w (adv a c j) (bytesV ((bs.drop j).take (lenK n 0 j m s))) := by
    have h1 := HH.out.adv c j (by rw [bytesV_length, HL.out]; omega)
    have h2 := h1.take (lenK n 0 j m s)
    rw [bytesV_drop, bytesV_take] at h2
    exact h2
  have hlen : ((bs.drop j).take (lenK n 0 j m s)).length = lenK n 0 j m s := by rw [List.length_take, List.length_drop, HL.out]; omega
  generalize (bs.drop j).take (lenK n 0 j m s) = cs at *
  have hcut : ∀ W, Calls Try.prog 36 #[.agg #[.slice a n c], .int .i64 j, .int .i64 m] W fun e w' => e = .returned (.agg #[.slice (adv a c j) (lenK n 0 j m s) (c - j)]) ∧ Below W.heap.size W w' := fun W => by
    simp only [fitK] at hf
    have := cut_ok a n c j m.toNat W (by omega) hn hc
    rw [Int.toNat_of_nonneg hf.2.1] at this
    exact this
  generalize lenK n 0 j m s = q at *
  generalize adv a c j = A1 at *
  have HC := Lib.hid hcut
  have HBB := Lib.hid hB
  have HN := Lib.hid hlen
  clear hcut hB hlen hf hk0 hs1 hs2
  have hAC := allocC
  have hAF := allocF
  go_enter Try.func35, Try.ntmps35
  go_wp2_with (first
      | (go_at_call 23; refine (of_any _ _ _ _).mono ?_; rintro e w1 ⟨rfl, hb1⟩; have h1c := bc hb1; have h1f := bf hb1; have h1z := hb1.size; try simp only [World.size_alloc, World.size_drew] at h1z)
      | (go_at_call 36; refine (HC.out _).mono ?_; rintro e w2 ⟨rfl, hb2⟩; have h2c := bc hb2; have h2f := bf hb2; have h2z := hb2.size; try simp only [World.size_alloc, World.size_drew] at h2z))
  obtain ⟨V, hV⟩ : ∃ V, V = w2.setCell ⟨w1.heap.size, 0, none⟩ (.slice A1 q (c - j)) := ⟨_, rfl⟩
  have hb : Below w.heap.size w V := by rw [hV]; exact (by repeat (first | exact brefl _ | assumption | refine balloc ?_ _ | refine bdrew ?_ _ | refine bdrew1 ?_ | refine bthen ?_ (by assumption) | refine Below.trans ?_ (by assumption) | (refine bset ?_ (by first | (simp; done) | (simp; omega)) _)))
  have hz : V.heap.size = w2.heap.size := by rw [hV]; simp
  have vC : V.cell? ⟨w1.heap.size, 0, none⟩ = some (.slice A1 q (c - j)) := by
    rw [hV]
    simp [go_sem, h2c, hAC]
  have v4 : V.cell? ⟨g4, 0, none⟩ = some x := (hb.cell (p := ⟨g4, 0, none⟩) l4).trans c4
  have v5 : V.cell? ⟨g5, 0, none⟩ = some y := (hb.cell (p := ⟨g5, 0, none⟩) l5).trans c5
  have u4 : V.frozen? ⟨g4, 0, none⟩ = false := (hb.frozen (p := ⟨g4, 0, none⟩) l4).trans f4
  have u5 : V.frozen? ⟨g5, 0, none⟩ = false := (hb.frozen (p := ⟨g5, 0, none⟩) l5).trans f5
  have hlt : w1.heap.size < V.heap.size := by rw [hz]; omega
  rw [← hV]
  clear hV h1c h1f h2c h2f hb2 hb1
  generalize w1.heap.size = gv at *
  have hgv : w.heap.size ≤ gv := h1z
  have m4 : ¬ gv = g4 := by omega
  have m5 : ¬ gv = g5 := by omega
  clear h1z h2z
  have HBV := Lib.hid hb
  have lv4 : g4 < V.heap.size := by omega
  have lv5 : g5 < V.heap.size := by omega
  have hvz := hb.size
  clear hb hz c0 c1 c4 c5 d0 d1 d2 f4 f5
  refine wp_region_tree (.step 0 (.step 2 (.step 1 (.step 3 (.step 4 (.step 5 .nil)))))) (by kernel_rfl) (by kernel_rfl) (by kernel_rfl) (by kernel_rfl) (by intro _ _ d_ _ _ h_; cases d_ <;> first | exact h_ | (dsimp +zetaDelta only at h_ ⊢; exact h_)) (fun w' => ∃ p : Wld V [g4, g5], w' = p.val) (wld_start _ _) ?_
  have hG_ := @wldC2 V g4 g5
  (refine tree_quiet (by simp only [List.getElem?_toArray, List.getElem?_cons_succ, List.getElem?_cons_zero]; rfl) (by rfl) (by rfl) (fun K_ hK_ => ?_); go_big_quiet_op; refine hK_ _ ?_; clear hK_ K_)
  (refine tree_quiet (by simp only [List.getElem?_toArray, List.getElem?_cons_succ, List.getElem?_cons_zero]; rfl) (by rfl) (by rfl) (fun K_ hK_ => ?_); go_big_quiet_op; refine hK_ _ ?_; clear hK_ K_)
  (refine tree_run (by simp only [List.getElem?_toArray, List.getElem?_cons_succ, List.getElem?_cons_zero]; rfl) (by rfl) (by rfl) (fun K_ hK_ => ?_); have HK_ := Lib.hid hK_; clear hK_; go_wp2_with (first
      | (go_at_call 24; refine (bytes_any _ _ _ cs _ ((HBB.out.below HBV.out).below (by repeat (first | exact brefl _ | assumption | refine balloc ?_ _ | refine bdrew ?_ _ | refine bdrew1 ?_ | refine bthen ?_ (by assumption) | refine Below.trans ?_ (by assumption) | (refine bset ?_ (by first | (simp; done) | (simp; omega)) _)))) HN.out (by omega)).mono ?_; rintro e w4 ⟨a4, c4, rfl, hown, k1, k2, k3, hb4⟩; have HO := Lib.hid hown; have HA := Lib.hid k3; have h4c := bc hb4; have h4f := bf hb4; have h4z := hb4.size; try simp only [World.size_drew] at h4z; clear hown k3)
      | (go_at_call 33; refine (len_any _ _ _ _).mono ?_; rintro e w5 ⟨rfl, hb5⟩; have h5c := bc hb5; have h5f := bf hb5; have h5z := hb5.size; try simp only [World.size_alloc, World.size_drew] at h5z)); refine HK_.out _ _ (wld_of (by repeat (first | exact same_below (brefl _) | exact same_below (bdrew1 (brefl _)) | assumption | refine same_drew ?_ | refine same_then ?_ (by assumption) | refine same_alloc ?_ _ | (refine same_set ?_ (by first | (left; simp; done) | (right; simp; done) | (right; simp; omega)) _)))) ?_; clear HK_)
  (refine tree_run (by simp only [List.getElem?_toArray, List.getElem?_cons_succ, List.getElem?_cons_zero]; rfl) (by rfl) (by rfl) (fun K_ hK_ => ?_); have HK_ := Lib.hid hK_; clear hK_; go_wp2_with (first
      | (go_at_call 24; refine (bytes_any _ _ _ cs _ ((HBB.out.below HBV.out).below (by repeat (first | exact brefl _ | assumption | refine balloc ?_ _ | refine bdrew ?_ _ | refine bdrew1 ?_ | refine bthen ?_ (by assumption) | refine Below.trans ?_ (by assumption) | (refine bset ?_ (by first | (simp; done) | (simp; omega)) _)))) HN.out (by omega)).mono ?_; rintro e w4 ⟨a4, c4, rfl, hown, k1, k2, k3, hb4⟩; have HO := Lib.hid hown; have HA := Lib.hid k3; have h4c := bc hb4; have h4f := bf hb4; have h4z := hb4.size; try simp only [World.size_drew] at h4z; clear hown k3)
      | (go_at_call 33; refine (len_any _ _ _ _).mono ?_; rintro e w5 ⟨rfl, hb5⟩; have h5c := bc hb5; have h5f := bf hb5; have h5z := hb5.size; try simp only [World.size_alloc, World.size_drew] at h5z)); refine HK_.out _ _ (wld_of (by repeat (first | exact same_below (brefl _) | exact same_below (bdrew1 (brefl _)) | assumption | refine same_drew ?_ | refine same_then ?_ (by assumption) | refine same_alloc ?_ _ | (refine same_set ?_ (by first | (left; simp; done) | (right; simp; done) | (right; simp; omega)) _)))) ?_; clear HK_)
  (refine tree_run (by simp only [List.getElem?_toArray, List.getElem?_cons_succ, List.getElem?_cons_zero]; rfl) (by rfl) (by rfl) (fun K_ hK_ => ?_); have HK_ := Lib.hid hK_; clear hK_; go_wp2_with (first
      | (go_at_call 24; refine (bytes_any _ _ _ cs _ ((HBB.out.below HBV.out).below (by repeat (first | exact brefl _ | assumption | refine balloc ?_ _ | refine bdrew ?_ _ | refine bdrew1 ?_ | refine bthen ?_ (by assumption) | refine Below.trans ?_ (by assumption) | (refine bset ?_ (by first | (simp; done) | (simp; omega)) _)))) HN.out (by omega)).mono ?_; rintro e w4 ⟨a4, c4, rfl, hown, k1, k2, k3, hb4⟩; have HO := Lib.hid hown; have HA := Lib.hid k3; have h4c := bc hb4; have h4f := bf hb4; have h4z := hb4.size; try simp only [World.size_drew] at h4z; clear hown k3)
      | (go_at_call 33; refine (len_any _ _ _ _).mono ?_; rintro e w5 ⟨rfl, hb5⟩; have h5c := bc hb5; have h5f := bf hb5; have h5z := hb5.size; try simp only [World.size_alloc, World.size_drew] at h5z)); refine HK_.out _ _ (wld_of (by repeat (first | exact same_below (brefl _) | exact same_below (bdrew1 (brefl _)) | assumption | refine same_drew ?_ | refine same_then ?_ (by assumption) | refine same_alloc ?_ _ | (refine same_set ?_ (by first | (left; simp; done) | (right; simp; done) | (right; simp; omega)) _)))) ?_; clear HK_)
  (refine tree_run (by simp only [List.getElem?_toArray, List.getElem?_cons_succ, List.getElem?_cons_zero]; rfl) (by rfl) (by rfl) (fun K_ hK_ => ?_); have HK_ := Lib.hid hK_; clear hK_; go_wp2_with (first
      | (go_at_call 24; refine (bytes_any _ _ _ cs _ ((HBB.out.below HBV.out).below (by repeat (first | exact brefl _ | assumption | refine balloc ?_ _ | refine bdrew ?_ _ | refine bdrew1 ?_ | refine bthen ?_ (by assumption) | refine Below.trans ?_ (by assumption) | (refine bset ?_ (by first | (simp; done) | (simp; omega)) _)))) HN.out (by omega)).mono ?_; rintro e w4 ⟨a4, c4, rfl, hown, k1, k2, k3, hb4⟩; have HO := Lib.hid hown; have HA := Lib.hid k3; have h4c := bc hb4; have h4f := bf hb4; have h4z := hb4.size; try simp only [World.size_drew] at h4z; clear hown k3)
      | (go_at_call 33; refine (len_any _ _ _ _).mono ?_; rintro e w5 ⟨rfl, hb5⟩; have h5c := bc hb5; have h5f := bf hb5; have h5z := hb5.size; try simp only [World.size_alloc, World.size_drew] at h5z)); refine HK_.out _ _ (wld_of (by repeat (first | exact same_below (brefl _) | exact same_below (bdrew1 (brefl _)) | assumption | refine same_drew ?_ | refine same_then ?_ (by assumption) | refine same_alloc ?_ _ | (refine same_set ?_ (by first | (left; simp; done) | (right; simp; done) | (right; simp; omega)) _)))) ?_; clear HK_)
  refine tree_nil ?_
  clear hG_
  go_wp2
  go_end0
  have HB5 : Below w.heap.size w w5 := ((HBV.out.trans ((bdrew1 (brefl V)).mono hvz)).trans (hb4.mono (by simpa using hvz))).trans (hb5.mono (by omega))
  refine ⟨rfl, .inl ⟨rfl, w5, a4, c4, HB5, ?_⟩⟩
  rw [HN.out]
  exact ⟨owns_mono (owns_below HO.out hb5 (Nat.le_refl _)) (by simpa using hvz), k1, k2, HA.out, rfl⟩

set_option maxRecDepth 100000 in
set_option maxHeartbeats 1600000 in
theorem cut1_in1 (a : Option Addr) (n c : Nat) (bs : List UInt8) (k m s : Int) (g0 g1 g2 g4 g5 : Nat) (x y : Value) (w : World) (h : Has w a (bytesV bs)) (hl : bs.length = n) (hn : n ≤ c) (hc : c ≤ maxLen) (hm : n ≤ 1000)
    (hs1 : m ≤ 9223372036854775807) (hs2 : s ≤ 9223372036854775807) (hf : fitK n 1 k m s) (n0 : ¬ g0 = g4) (n1 : ¬ g1 = g4) (n2 : ¬ g2 = g4) (n3 : ¬ g0 = g5) (n4 : ¬ g1 = g5) (n5 : ¬ g2 = g5) (n6 : ¬ g4 = g5)
    (c0 : w.cell? ⟨g0, 0, none⟩ = some (.slice a n c)) (c1 : w.cell? ⟨g1, 0, none⟩ = some (.int .i64 ((1 : Nat) : Int))) (d0 : w.cell? ⟨g2, 0, none⟩ = some (.int .i64 k)) (d1 : w.cell? ⟨g2, 1, none⟩ = some (.int .i64 m)) (d2 : w.cell? ⟨g2, 2, none⟩ = some (.int .i64 s))
    (c4 : w.cell? ⟨g4, 0, none⟩ = some x) (f4 : w.frozen? ⟨g4, 0, none⟩ = false) (c5 : w.cell? ⟨g5, 0, none⟩ = some y) (f5 : w.frozen? ⟨g5, 0, none⟩ = false) :
    Calls Try.prog 35 #[.pointer (some ⟨g0, 0, none⟩), .pointer (some ⟨g1, 0, none⟩), .pointer (some ⟨g2, 0, none⟩), .pointer (some ⟨g4, 0, none⟩), .pointer (some ⟨g5, 0, none⟩)] w fun e w' =>
      e = .returned (.tuple #[]) ∧ CutR w g4 g5 ((bs.drop k.toNat).take (lenK n 1 k m s)) true w' := by
  have HH := Lib.hid h
  have HL := Lib.hid hl
  have l0 := cell_lt c0
  have l1 := cell_lt c1
  have l2 := cell_lt d0
  have l4 := cell_lt c4
  have l5 := cell_lt c5
  simp only at l0 l1 l2 l4 l5
  clear h hl
  obtain ⟨hk0, hkl⟩ := lenK_le hf
  obtain ⟨j, rfl⟩ : ∃ j : Nat, k = j := ⟨k.toNat, by omega⟩
  simp only [Int.toNat_natCast] at hkl ⊢
  have hB : Has w (adv a c j) (bytesV ((bs.drop j).take (lenK n 1 j m s))) := by
    have h1 := HH.out.adv c j (by rw [bytesV_length, HL.out]; omega)
    have h2 := h1.take (lenK n 1 j m s)
    rw [bytesV_drop, bytesV_take] at h2
    exact h2
  have hlen : ((bs.drop j).take (lenK n 1 j m s)).length = lenK n 1 j m s := by rw [List.length_take, List.length_drop, HL.out]; omega
  generalize (bs.drop j).take (lenK n 1 j m s) = cs at *
  have hcut : ∀ W, Calls Try.prog 37 #[.agg #[.slice a n c], .int .i64 j] W fun e w' => e = .returned (.agg #[.slice (adv a c j) (lenK n 1 j m s) (c - j)]) ∧ Below W.heap.size W w' := fun W => by
    simp only [fitK] at hf
    exact rest_ok a n c j W (by omega) hn hc
  generalize lenK n 1 j m s = q at *
  generalize adv a c j = A1 at *
  have HC := Lib.hid hcut
  have HBB := Lib.hid hB
  have HN := Lib.hid hlen
  clear hcut hB hlen hf hk0 hs1 hs2
  have hAC := allocC
  have hAF := allocF
  go_enter Try.func35, Try.ntmps35
  go_wp2_with (first
      | (go_at_call 23; refine (of_any _ _ _ _).mono ?_; rintro e w1 ⟨rfl, hb1⟩; have h1c := bc hb1; have h1f := bf hb1; have h1z := hb1.size; try simp only [World.size_alloc, World.size_drew] at h1z)
      | (go_at_call 37; refine (HC.out _).mono ?_; rintro e w2 ⟨rfl, hb2⟩; have h2c := bc hb2; have h2f := bf hb2; have h2z := hb2.size; try simp only [World.size_alloc, World.size_drew] at h2z))
  obtain ⟨V, hV⟩ : ∃ V, V = w2.setCell ⟨w1.heap.size, 0, none⟩ (.slice A1 q (c - j)) := ⟨_, rfl⟩
  have hb : Below w.heap.size w V := by rw [hV]; exact (by repeat (first | exact brefl _ | assumption | refine balloc ?_ _ | refine bdrew ?_ _ | refine bdrew1 ?_ | refine bthen ?_ (by assumption) | refine Below.trans ?_ (by assumption) | (refine bset ?_ (by first | (simp; done) | (simp; omega)) _)))
  have hz : V.heap.size = w2.heap.size := by rw [hV]; simp
  have vC : V.cell? ⟨w1.heap.size, 0, none⟩ = some (.slice A1 q (c - j)) := by
    rw [hV]
    simp [go_sem, h2c, hAC]
  have v4 : V.cell? ⟨g4, 0, none⟩ = some x := (hb.cell (p := ⟨g4, 0, none⟩) l4).trans c4
  have v5 : V.cell? ⟨g5, 0, none⟩ = some y := (hb.cell (p := ⟨g5, 0, none⟩) l5).trans c5
  have u4 : V.frozen? ⟨g4, 0, none⟩ = false := (hb.frozen (p := ⟨g4, 0, none⟩) l4).trans f4
  have u5 : V.frozen? ⟨g5, 0, none⟩ = false := (hb.frozen (p := ⟨g5, 0, none⟩) l5).trans f5
  have hlt : w1.heap.size < V.heap.size := by rw [hz]; omega
  rw [← hV]
  clear hV h1c h1f h2c h2f hb2 hb1
  generalize w1.heap.size = gv at *
  have hgv : w.heap.size ≤ gv := h1z
  have m4 : ¬ gv = g4 := by omega
  have m5 : ¬ gv = g5 := by omega
  clear h1z h2z
  have HBV := Lib.hid hb
  have lv4 : g4 < V.heap.size := by omega
  have lv5 : g5 < V.heap.size := by omega
  have hvz := hb.size
  clear hb hz c0 c1 c4 c5 d0 d1 d2 f4 f5
  refine wp_region_tree (.step 0 (.step 2 (.step 1 (.step 3 (.step 4 (.step 5 .nil)))))) (by kernel_rfl) (by kernel_rfl) (by kernel_rfl) (by kernel_rfl) (by intro _ _ d_ _ _ h_; cases d_ <;> first | exact h_ | (dsimp +zetaDelta only at h_ ⊢; exact h_)) (fun w' => ∃ p : Wld V [g4, g5], w' = p.val) (wld_start _ _) ?_
  have hG_ := @wldC2 V g4 g5
  (refine tree_quiet (by simp only [List.getElem?_toArray, List.getElem?_cons_succ, List.getElem?_cons_zero]; rfl) (by rfl) (by rfl) (fun K_ hK_ => ?_); go_big_quiet_op; refine hK_ _ ?_; clear hK_ K_)
  (refine tree_quiet (by simp only [List.getElem?_toArray, List.getElem?_cons_succ, List.getElem?_cons_zero]; rfl) (by rfl) (by rfl) (fun K_ hK_ => ?_); go_big_quiet_op; refine hK_ _ ?_; clear hK_ K_)
  (refine tree_run (by simp only [List.getElem?_toArray, List.getElem?_cons_succ, List.getElem?_cons_zero]; rfl) (by rfl) (by rfl) (fun K_ hK_ => ?_); have HK_ := Lib.hid hK_; clear hK_; go_wp2_with (first
      | (go_at_call 24; refine (bytes_any _ _ _ cs _ ((HBB.out.below HBV.out).below (by repeat (first | exact brefl _ | assumption | refine balloc ?_ _ | refine bdrew ?_ _ | refine bdrew1 ?_ | refine bthen ?_ (by assumption) | refine Below.trans ?_ (by assumption) | (refine bset ?_ (by first | (simp; done) | (simp; omega)) _)))) HN.out (by omega)).mono ?_; rintro e w4 ⟨a4, c4, rfl, hown, k1, k2, k3, hb4⟩; have HO := Lib.hid hown; have HA := Lib.hid k3; have h4c := bc hb4; have h4f := bf hb4; have h4z := hb4.size; try simp only [World.size_drew] at h4z; clear hown k3)
      | (go_at_call 33; refine (len_any _ _ _ _).mono ?_; rintro e w5 ⟨rfl, hb5⟩; have h5c := bc hb5; have h5f := bf hb5; have h5z := hb5.size; try simp only [World.size_alloc, World.size_drew] at h5z)); refine HK_.out _ _ (wld_of (by repeat (first | exact same_below (brefl _) | exact same_below (bdrew1 (brefl _)) | assumption | refine same_drew ?_ | refine same_then ?_ (by assumption) | refine same_alloc ?_ _ | (refine same_set ?_ (by first | (left; simp; done) | (right; simp; done) | (right; simp; omega)) _)))) ?_; clear HK_)
  (refine tree_run (by simp only [List.getElem?_toArray, List.getElem?_cons_succ, List.getElem?_cons_zero]; rfl) (by rfl) (by rfl) (fun K_ hK_ => ?_); have HK_ := Lib.hid hK_; clear hK_; go_wp2_with (first
      | (go_at_call 24; refine (bytes_any _ _ _ cs _ ((HBB.out.below HBV.out).below (by repeat (first | exact brefl _ | assumption | refine balloc ?_ _ | refine bdrew ?_ _ | refine bdrew1 ?_ | refine bthen ?_ (by assumption) | refine Below.trans ?_ (by assumption) | (refine bset ?_ (by first | (simp; done) | (simp; omega)) _)))) HN.out (by omega)).mono ?_; rintro e w4 ⟨a4, c4, rfl, hown, k1, k2, k3, hb4⟩; have HO := Lib.hid hown; have HA := Lib.hid k3; have h4c := bc hb4; have h4f := bf hb4; have h4z := hb4.size; try simp only [World.size_drew] at h4z; clear hown k3)
      | (go_at_call 33; refine (len_any _ _ _ _).mono ?_; rintro e w5 ⟨rfl, hb5⟩; have h5c := bc hb5; have h5f := bf hb5; have h5z := hb5.size; try simp only [World.size_alloc, World.size_drew] at h5z)); refine HK_.out _ _ (wld_of (by repeat (first | exact same_below (brefl _) | exact same_below (bdrew1 (brefl _)) | assumption | refine same_drew ?_ | refine same_then ?_ (by assumption) | refine same_alloc ?_ _ | (refine same_set ?_ (by first | (left; simp; done) | (right; simp; done) | (right; simp; omega)) _)))) ?_; clear HK_)
  (refine tree_run (by simp only [List.getElem?_toArray, List.getElem?_cons_succ, List.getElem?_cons_zero]; rfl) (by rfl) (by rfl) (fun K_ hK_ => ?_); have HK_ := Lib.hid hK_; clear hK_; go_wp2_with (first
      | (go_at_call 24; refine (bytes_any _ _ _ cs _ ((HBB.out.below HBV.out).below (by repeat (first | exact brefl _ | assumption | refine balloc ?_ _ | refine bdrew ?_ _ | refine bdrew1 ?_ | refine bthen ?_ (by assumption) | refine Below.trans ?_ (by assumption) | (refine bset ?_ (by first | (simp; done) | (simp; omega)) _)))) HN.out (by omega)).mono ?_; rintro e w4 ⟨a4, c4, rfl, hown, k1, k2, k3, hb4⟩; have HO := Lib.hid hown; have HA := Lib.hid k3; have h4c := bc hb4; have h4f := bf hb4; have h4z := hb4.size; try simp only [World.size_drew] at h4z; clear hown k3)
      | (go_at_call 33; refine (len_any _ _ _ _).mono ?_; rintro e w5 ⟨rfl, hb5⟩; have h5c := bc hb5; have h5f := bf hb5; have h5z := hb5.size; try simp only [World.size_alloc, World.size_drew] at h5z)); refine HK_.out _ _ (wld_of (by repeat (first | exact same_below (brefl _) | exact same_below (bdrew1 (brefl _)) | assumption | refine same_drew ?_ | refine same_then ?_ (by assumption) | refine same_alloc ?_ _ | (refine same_set ?_ (by first | (left; simp; done) | (right; simp; done) | (right; simp; omega)) _)))) ?_; clear HK_)
  (refine tree_run (by simp only [List.getElem?_toArray, List.getElem?_cons_succ, List.getElem?_cons_zero]; rfl) (by rfl) (by rfl) (fun K_ hK_ => ?_); have HK_ := Lib.hid hK_; clear hK_; go_wp2_with (first
      | (go_at_call 24; refine (bytes_any _ _ _ cs _ ((HBB.out.below HBV.out).below (by repeat (first | exact brefl _ | assumption | refine balloc ?_ _ | refine bdrew ?_ _ | refine bdrew1 ?_ | refine bthen ?_ (by assumption) | refine Below.trans ?_ (by assumption) | (refine bset ?_ (by first | (simp; done) | (simp; omega)) _)))) HN.out (by omega)).mono ?_; rintro e w4 ⟨a4, c4, rfl, hown, k1, k2, k3, hb4⟩; have HO := Lib.hid hown; have HA := Lib.hid k3; have h4c := bc hb4; have h4f := bf hb4; have h4z := hb4.size; try simp only [World.size_drew] at h4z; clear hown k3)
      | (go_at_call 33; refine (len_any _ _ _ _).mono ?_; rintro e w5 ⟨rfl, hb5⟩; have h5c := bc hb5; have h5f := bf hb5; have h5z := hb5.size; try simp only [World.size_alloc, World.size_drew] at h5z)); refine HK_.out _ _ (wld_of (by repeat (first | exact same_below (brefl _) | exact same_below (bdrew1 (brefl _)) | assumption | refine same_drew ?_ | refine same_then ?_ (by assumption) | refine same_alloc ?_ _ | (refine same_set ?_ (by first | (left; simp; done) | (right; simp; done) | (right; simp; omega)) _)))) ?_; clear HK_)
  refine tree_nil ?_
  clear hG_
  go_wp2
  go_end0
  have HB5 : Below w.heap.size w w5 := ((HBV.out.trans ((bdrew1 (brefl V)).mono hvz)).trans (hb4.mono (by simpa using hvz))).trans (hb5.mono (by omega))
  refine ⟨rfl, .inl ⟨rfl, w5, a4, c4, HB5, ?_⟩⟩
  rw [HN.out]
  exact ⟨owns_mono (owns_below HO.out hb5 (Nat.le_refl _)) (by simpa using hvz), k1, k2, HA.out, rfl⟩

set_option maxRecDepth 100000 in
set_option maxHeartbeats 1600000 in
theorem cut1_in2 (a : Option Addr) (n c : Nat) (bs : List UInt8) (k m s : Int) (g0 g1 g2 g4 g5 : Nat) (x y : Value) (w : World) (h : Has w a (bytesV bs)) (hl : bs.length = n) (hn : n ≤ c) (hc : c ≤ maxLen) (hm : n ≤ 1000)
    (hs1 : m ≤ 9223372036854775807) (hs2 : s ≤ 9223372036854775807) (hf : fitK n 2 k m s) (n0 : ¬ g0 = g4) (n1 : ¬ g1 = g4) (n2 : ¬ g2 = g4) (n3 : ¬ g0 = g5) (n4 : ¬ g1 = g5) (n5 : ¬ g2 = g5) (n6 : ¬ g4 = g5)
    (c0 : w.cell? ⟨g0, 0, none⟩ = some (.slice a n c)) (c1 : w.cell? ⟨g1, 0, none⟩ = some (.int .i64 ((2 : Nat) : Int))) (d0 : w.cell? ⟨g2, 0, none⟩ = some (.int .i64 k)) (d1 : w.cell? ⟨g2, 1, none⟩ = some (.int .i64 m)) (d2 : w.cell? ⟨g2, 2, none⟩ = some (.int .i64 s))
    (c4 : w.cell? ⟨g4, 0, none⟩ = some x) (f4 : w.frozen? ⟨g4, 0, none⟩ = false) (c5 : w.cell? ⟨g5, 0, none⟩ = some y) (f5 : w.frozen? ⟨g5, 0, none⟩ = false) :
    Calls Try.prog 35 #[.pointer (some ⟨g0, 0, none⟩), .pointer (some ⟨g1, 0, none⟩), .pointer (some ⟨g2, 0, none⟩), .pointer (some ⟨g4, 0, none⟩), .pointer (some ⟨g5, 0, none⟩)] w fun e w' =>
      e = .returned (.tuple #[]) ∧ CutR w g4 g5 ((bs.drop k.toNat).take (lenK n 2 k m s)) true w' := by
  have HH := Lib.hid h
  have HL := Lib.hid hl
  have l0 := cell_lt c0
  have l1 := cell_lt c1
  have l2 := cell_lt d0
  have l4 := cell_lt c4
  have l5 := cell_lt c5
  simp only at l0 l1 l2 l4 l5
  clear h hl
  obtain ⟨hk0, hkl⟩ := lenK_le hf
  obtain ⟨j, rfl⟩ : ∃ j : Nat, k = j := ⟨k.toNat, by omega⟩
  simp only [Int.toNat_natCast] at hkl ⊢
  have hB : Has w (adv a c j) (bytesV ((bs.drop j).take (lenK n 2 j m s))) := by
    have h1 := HH.out.adv c j (by rw [bytesV_length, HL.out]; omega)
    have h2 := h1.take (lenK n 2 j m s)
    rw [bytesV_drop, bytesV_take] at h2
    exact h2
  have hlen : ((bs.drop j).take (lenK n 2 j m s)).length = lenK n 2 j m s := by rw [List.length_take, List.length_drop, HL.out]; omega
  generalize (bs.drop j).take (lenK n 2 j m s) = cs at *
  have hcut : ∀ W, Calls Try.prog 38 #[.agg #[.slice a n c], .int .i64 j, .int .i64 m, .int .i64 s] W fun e w' => e = .returned (.agg #[.slice (adv a c j) (lenK n 2 j m s) (c - j)]) ∧ Below W.heap.size W w' := fun W => by
    simp only [fitK] at hf
    obtain ⟨h1, h2, h3, h4, h5⟩ := hf
    have := rows_ok a n c j m.toNat s.toNat (m.toNat * s.toNat) W rfl (by omega) (by
      simp only [Int.toNat_natCast] at h5
      rcases h5 with h5 | h5
      · exact .inl (by omega)
      · exact .inr h5) (by omega) (by omega) hn hc
    rw [Int.toNat_of_nonneg h3, Int.toNat_of_nonneg h4] at this
    exact this
  generalize lenK n 2 j m s = q at *
  generalize adv a c j = A1 at *
  have HC := Lib.hid hcut
  have HBB := Lib.hid hB
  have HN := Lib.hid hlen
  clear hcut hB hlen hf hk0 hs1 hs2
  have hAC := allocC
  have hAF := allocF
  go_enter Try.func35, Try.ntmps35
  go_wp2_with (first
      | (go_at_call 23; refine (of_any _ _ _ _).mono ?_; rintro e w1 ⟨rfl, hb1⟩; have h1c := bc hb1; have h1f := bf hb1; have h1z := hb1.size; try simp only [World.size_alloc, World.size_drew] at h1z)
      | (go_at_call 38; refine (HC.out _).mono ?_; rintro e w2 ⟨rfl, hb2⟩; have h2c := bc hb2; have h2f := bf hb2; have h2z := hb2.size; try simp only [World.size_alloc, World.size_drew] at h2z))
  obtain ⟨V, hV⟩ : ∃ V, V = w2.setCell ⟨w1.heap.size, 0, none⟩ (.slice A1 q (c - j)) := ⟨_, rfl⟩
  have hb : Below w.heap.size w V := by rw [hV]; exact (by repeat (first | exact brefl _ | assumption | refine balloc ?_ _ | refine bdrew ?_ _ | refine bdrew1 ?_ | refine bthen ?_ (by assumption) | refine Below.trans ?_ (by assumption) | (refine bset ?_ (by first | (simp; done) | (simp; omega)) _)))
  have hz : V.heap.size = w2.heap.size := by rw [hV]; simp
  have vC : V.cell? ⟨w1.heap.size, 0, none⟩ = some (.slice A1 q (c - j)) := by
    rw [hV]
    simp [go_sem, h2c, hAC]
  have v4 : V.cell? ⟨g4, 0, none⟩ = some x := (hb.cell (p := ⟨g4, 0, none⟩) l4).trans c4
  have v5 : V.cell? ⟨g5, 0, none⟩ = some y := (hb.cell (p := ⟨g5, 0, none⟩) l5).trans c5
  have u4 : V.frozen? ⟨g4, 0, none⟩ = false := (hb.frozen (p := ⟨g4, 0, none⟩) l4).trans f4
  have u5 : V.frozen? ⟨g5, 0, none⟩ = false := (hb.frozen (p := ⟨g5, 0, none⟩) l5).trans f5
  have hlt : w1.heap.size < V.heap.size := by rw [hz]; omega
  rw [← hV]
  clear hV h1c h1f h2c h2f hb2 hb1
  generalize w1.heap.size = gv at *
  have hgv : w.heap.size ≤ gv := h1z
  have m4 : ¬ gv = g4 := by omega
  have m5 : ¬ gv = g5 := by omega
  clear h1z h2z
  have HBV := Lib.hid hb
  have lv4 : g4 < V.heap.size := by omega
  have lv5 : g5 < V.heap.size := by omega
  have hvz := hb.size
  clear hb hz c0 c1 c4 c5 d0 d1 d2 f4 f5
  refine wp_region_tree (.step 0 (.step 2 (.step 1 (.step 3 (.step 4 (.step 5 .nil)))))) (by kernel_rfl) (by kernel_rfl) (by kernel_rfl) (by kernel_rfl) (by intro _ _ d_ _ _ h_; cases d_ <;> first | exact h_ | (dsimp +zetaDelta only at h_ ⊢; exact h_)) (fun w' => ∃ p : Wld V [g4, g5], w' = p.val) (wld_start _ _) ?_
  have hG_ := @wldC2 V g4 g5
  (refine tree_quiet (by simp only [List.getElem?_toArray, List.getElem?_cons_succ, List.getElem?_cons_zero]; rfl) (by rfl) (by rfl) (fun K_ hK_ => ?_); go_big_quiet_op; refine hK_ _ ?_; clear hK_ K_)
  (refine tree_quiet (by simp only [List.getElem?_toArray, List.getElem?_cons_succ, List.getElem?_cons_zero]; rfl) (by rfl) (by rfl) (fun K_ hK_ => ?_); go_big_quiet_op; refine hK_ _ ?_; clear hK_ K_)
  (refine tree_run (by simp only [List.getElem?_toArray, List.getElem?_cons_succ, List.getElem?_cons_zero]; rfl) (by rfl) (by rfl) (fun K_ hK_ => ?_); have HK_ := Lib.hid hK_; clear hK_; go_wp2_with (first
      | (go_at_call 24; refine (bytes_any _ _ _ cs _ ((HBB.out.below HBV.out).below (by repeat (first | exact brefl _ | assumption | refine balloc ?_ _ | refine bdrew ?_ _ | refine bdrew1 ?_ | refine bthen ?_ (by assumption) | refine Below.trans ?_ (by assumption) | (refine bset ?_ (by first | (simp; done) | (simp; omega)) _)))) HN.out (by omega)).mono ?_; rintro e w4 ⟨a4, c4, rfl, hown, k1, k2, k3, hb4⟩; have HO := Lib.hid hown; have HA := Lib.hid k3; have h4c := bc hb4; have h4f := bf hb4; have h4z := hb4.size; try simp only [World.size_drew] at h4z; clear hown k3)
      | (go_at_call 33; refine (len_any _ _ _ _).mono ?_; rintro e w5 ⟨rfl, hb5⟩; have h5c := bc hb5; have h5f := bf hb5; have h5z := hb5.size; try simp only [World.size_alloc, World.size_drew] at h5z)); refine HK_.out _ _ (wld_of (by repeat (first | exact same_below (brefl _) | exact same_below (bdrew1 (brefl _)) | assumption | refine same_drew ?_ | refine same_then ?_ (by assumption) | refine same_alloc ?_ _ | (refine same_set ?_ (by first | (left; simp; done) | (right; simp; done) | (right; simp; omega)) _)))) ?_; clear HK_)
  (refine tree_run (by simp only [List.getElem?_toArray, List.getElem?_cons_succ, List.getElem?_cons_zero]; rfl) (by rfl) (by rfl) (fun K_ hK_ => ?_); have HK_ := Lib.hid hK_; clear hK_; go_wp2_with (first
      | (go_at_call 24; refine (bytes_any _ _ _ cs _ ((HBB.out.below HBV.out).below (by repeat (first | exact brefl _ | assumption | refine balloc ?_ _ | refine bdrew ?_ _ | refine bdrew1 ?_ | refine bthen ?_ (by assumption) | refine Below.trans ?_ (by assumption) | (refine bset ?_ (by first | (simp; done) | (simp; omega)) _)))) HN.out (by omega)).mono ?_; rintro e w4 ⟨a4, c4, rfl, hown, k1, k2, k3, hb4⟩; have HO := Lib.hid hown; have HA := Lib.hid k3; have h4c := bc hb4; have h4f := bf hb4; have h4z := hb4.size; try simp only [World.size_drew] at h4z; clear hown k3)
      | (go_at_call 33; refine (len_any _ _ _ _).mono ?_; rintro e w5 ⟨rfl, hb5⟩; have h5c := bc hb5; have h5f := bf hb5; have h5z := hb5.size; try simp only [World.size_alloc, World.size_drew] at h5z)); refine HK_.out _ _ (wld_of (by repeat (first | exact same_below (brefl _) | exact same_below (bdrew1 (brefl _)) | assumption | refine same_drew ?_ | refine same_then ?_ (by assumption) | refine same_alloc ?_ _ | (refine same_set ?_ (by first | (left; simp; done) | (right; simp; done) | (right; simp; omega)) _)))) ?_; clear HK_)
  (refine tree_run (by simp only [List.getElem?_toArray, List.getElem?_cons_succ, List.getElem?_cons_zero]; rfl) (by rfl) (by rfl) (fun K_ hK_ => ?_); have HK_ := Lib.hid hK_; clear hK_; go_wp2_with (first
      | (go_at_call 24; refine (bytes_any _ _ _ cs _ ((HBB.out.below HBV.out).below (by repeat (first | exact brefl _ | assumption | refine balloc ?_ _ | refine bdrew ?_ _ | refine bdrew1 ?_ | refine bthen ?_ (by assumption) | refine Below.trans ?_ (by assumption) | (refine bset ?_ (by first | (simp; done) | (simp; omega)) _)))) HN.out (by omega)).mono ?_; rintro e w4 ⟨a4, c4, rfl, hown, k1, k2, k3, hb4⟩; have HO := Lib.hid hown; have HA := Lib.hid k3; have h4c := bc hb4; have h4f := bf hb4; have h4z := hb4.size; try simp only [World.size_drew] at h4z; clear hown k3)
      | (go_at_call 33; refine (len_any _ _ _ _).mono ?_; rintro e w5 ⟨rfl, hb5⟩; have h5c := bc hb5; have h5f := bf hb5; have h5z := hb5.size; try simp only [World.size_alloc, World.size_drew] at h5z)); refine HK_.out _ _ (wld_of (by repeat (first | exact same_below (brefl _) | exact same_below (bdrew1 (brefl _)) | assumption | refine same_drew ?_ | refine same_then ?_ (by assumption) | refine same_alloc ?_ _ | (refine same_set ?_ (by first | (left; simp; done) | (right; simp; done) | (right; simp; omega)) _)))) ?_; clear HK_)
  (refine tree_run (by simp only [List.getElem?_toArray, List.getElem?_cons_succ, List.getElem?_cons_zero]; rfl) (by rfl) (by rfl) (fun K_ hK_ => ?_); have HK_ := Lib.hid hK_; clear hK_; go_wp2_with (first
      | (go_at_call 24; refine (bytes_any _ _ _ cs _ ((HBB.out.below HBV.out).below (by repeat (first | exact brefl _ | assumption | refine balloc ?_ _ | refine bdrew ?_ _ | refine bdrew1 ?_ | refine bthen ?_ (by assumption) | refine Below.trans ?_ (by assumption) | (refine bset ?_ (by first | (simp; done) | (simp; omega)) _)))) HN.out (by omega)).mono ?_; rintro e w4 ⟨a4, c4, rfl, hown, k1, k2, k3, hb4⟩; have HO := Lib.hid hown; have HA := Lib.hid k3; have h4c := bc hb4; have h4f := bf hb4; have h4z := hb4.size; try simp only [World.size_drew] at h4z; clear hown k3)
      | (go_at_call 33; refine (len_any _ _ _ _).mono ?_; rintro e w5 ⟨rfl, hb5⟩; have h5c := bc hb5; have h5f := bf hb5; have h5z := hb5.size; try simp only [World.size_alloc, World.size_drew] at h5z)); refine HK_.out _ _ (wld_of (by repeat (first | exact same_below (brefl _) | exact same_below (bdrew1 (brefl _)) | assumption | refine same_drew ?_ | refine same_then ?_ (by assumption) | refine same_alloc ?_ _ | (refine same_set ?_ (by first | (left; simp; done) | (right; simp; done) | (right; simp; omega)) _)))) ?_; clear HK_)
  refine tree_nil ?_
  clear hG_
  go_wp2
  go_end0
  have HB5 : Below w.heap.size w w5 := ((HBV.out.trans ((bdrew1 (brefl V)).mono hvz)).trans (hb4.mono (by simpa using hvz))).trans (hb5.mono (by omega))
  refine ⟨rfl, .inl ⟨rfl, w5, a4, c4, HB5, ?_⟩⟩
  rw [HN.out]
  exact ⟨owns_mono (owns_below HO.out hb5 (Nat.le_refl _)) (by simpa using hvz), k1, k2, HA.out, rfl⟩

set_option maxRecDepth 100000 in
set_option maxHeartbeats 1600000 in
theorem cut1_out0 (a : Option Addr) (n c : Nat) (bs : List UInt8) (k m s : Int) (g0 g1 g2 g4 g5 : Nat) (x y : Value) (w : World) (h : Has w a (bytesV bs)) (hl : bs.length = n) (hn : n ≤ c) (hc : c ≤ maxLen) (hm : n ≤ 1000)
    (hs1 : m ≤ 9223372036854775807) (hs2 : s ≤ 9223372036854775807) (hf : ¬ fitK n 0 k m s) (n0 : ¬ g0 = g4) (n1 : ¬ g1 = g4) (n2 : ¬ g2 = g4) (n3 : ¬ g0 = g5) (n4 : ¬ g1 = g5) (n5 : ¬ g2 = g5) (n6 : ¬ g4 = g5)
    (c0 : w.cell? ⟨g0, 0, none⟩ = some (.slice a n c)) (c1 : w.cell? ⟨g1, 0, none⟩ = some (.int .i64 ((0 : Nat) : Int))) (d0 : w.cell? ⟨g2, 0, none⟩ = some (.int .i64 k)) (d1 : w.cell? ⟨g2, 1, none⟩ = some (.int .i64 m)) (d2 : w.cell? ⟨g2, 2, none⟩ = some (.int .i64 s))
    (c4 : w.cell? ⟨g4, 0, none⟩ = some x) (f4 : w.frozen? ⟨g4, 0, none⟩ = false) (c5 : w.cell? ⟨g5, 0, none⟩ = some y) (f5 : w.frozen? ⟨g5, 0, none⟩ = false) :
    Calls Try.prog 35 #[.pointer (some ⟨g0, 0, none⟩), .pointer (some ⟨g1, 0, none⟩), .pointer (some ⟨g2, 0, none⟩), .pointer (some ⟨g4, 0, none⟩), .pointer (some ⟨g5, 0, none⟩)] w fun e w' =>
      e = .panicked thrown ∧ CutR w g4 g5 ((bs.drop k.toNat).take (lenK n 0 k m s)) false w' := by
  generalize (bs.drop k.toNat).take (lenK n 0 k m s) = cs at *
  have l0 := cell_lt c0
  have l1 := cell_lt c1
  have l2 := cell_lt d0
  have l4 := cell_lt c4
  have l5 := cell_lt c5
  simp only at l0 l1 l2 l4 l5
  clear h hl
  have hcut : ∀ W, Calls Try.prog 36 #[.agg #[.slice a n c], .int .i64 k, .int .i64 m] W fun e w' => e = .panicked thrown ∧ Below W.heap.size W w' := fun W => (cut_bad a n c k m W (fun h => hf (by simp only [fitK]; omega)) hn hc)
  have HC := Lib.hid hcut
  clear hcut hf hs1 hs2
  have hAC := allocC
  have hAF := allocF
  go_enter Try.func35, Try.ntmps35
  go_wp2_with (first
      | (go_at_call 23; refine (of_any _ _ _ _).mono ?_; rintro e w1 ⟨rfl, hb1⟩; have h1c := bc hb1; have h1f := bf hb1; have h1z := hb1.size; try simp only [World.size_alloc, World.size_drew] at h1z)
      | (go_at_call 36; refine (HC.out _).mono ?_; rintro e w2 ⟨rfl, hb2⟩; have h2c := bc hb2; have h2f := bf hb2; have h2z := hb2.size; try simp only [World.size_alloc, World.size_drew] at h2z))
  exact ⟨rfl, rfl, .inr ⟨rfl, (by repeat (first | exact brefl _ | assumption | refine balloc ?_ _ | refine bdrew ?_ _ | refine bdrew1 ?_ | refine bthen ?_ (by assumption) | refine Below.trans ?_ (by assumption) | (refine bset ?_ (by first | (simp; done) | (simp; omega)) _)))⟩⟩

set_option maxRecDepth 100000 in
set_option maxHeartbeats 1600000 in
theorem cut1_out1 (a : Option Addr) (n c : Nat) (bs : List UInt8) (k m s : Int) (g0 g1 g2 g4 g5 : Nat) (x y : Value) (w : World) (h : Has w a (bytesV bs)) (hl : bs.length = n) (hn : n ≤ c) (hc : c ≤ maxLen) (hm : n ≤ 1000)
    (hs1 : m ≤ 9223372036854775807) (hs2 : s ≤ 9223372036854775807) (hf : ¬ fitK n 1 k m s) (n0 : ¬ g0 = g4) (n1 : ¬ g1 = g4) (n2 : ¬ g2 = g4) (n3 : ¬ g0 = g5) (n4 : ¬ g1 = g5) (n5 : ¬ g2 = g5) (n6 : ¬ g4 = g5)
    (c0 : w.cell? ⟨g0, 0, none⟩ = some (.slice a n c)) (c1 : w.cell? ⟨g1, 0, none⟩ = some (.int .i64 ((1 : Nat) : Int))) (d0 : w.cell? ⟨g2, 0, none⟩ = some (.int .i64 k)) (d1 : w.cell? ⟨g2, 1, none⟩ = some (.int .i64 m)) (d2 : w.cell? ⟨g2, 2, none⟩ = some (.int .i64 s))
    (c4 : w.cell? ⟨g4, 0, none⟩ = some x) (f4 : w.frozen? ⟨g4, 0, none⟩ = false) (c5 : w.cell? ⟨g5, 0, none⟩ = some y) (f5 : w.frozen? ⟨g5, 0, none⟩ = false) :
    Calls Try.prog 35 #[.pointer (some ⟨g0, 0, none⟩), .pointer (some ⟨g1, 0, none⟩), .pointer (some ⟨g2, 0, none⟩), .pointer (some ⟨g4, 0, none⟩), .pointer (some ⟨g5, 0, none⟩)] w fun e w' =>
      e = .panicked thrown ∧ CutR w g4 g5 ((bs.drop k.toNat).take (lenK n 1 k m s)) false w' := by
  generalize (bs.drop k.toNat).take (lenK n 1 k m s) = cs at *
  have l0 := cell_lt c0
  have l1 := cell_lt c1
  have l2 := cell_lt d0
  have l4 := cell_lt c4
  have l5 := cell_lt c5
  simp only at l0 l1 l2 l4 l5
  clear h hl
  have hcut : ∀ W, Calls Try.prog 37 #[.agg #[.slice a n c], .int .i64 k] W fun e w' => e = .panicked thrown ∧ Below W.heap.size W w' := fun W => (rest_bad a n c k W (by simp only [fitK] at hf; omega))
  have HC := Lib.hid hcut
  clear hcut hf hs1 hs2
  have hAC := allocC
  have hAF := allocF
  go_enter Try.func35, Try.ntmps35
  go_wp2_with (first
      | (go_at_call 23; refine (of_any _ _ _ _).mono ?_; rintro e w1 ⟨rfl, hb1⟩; have h1c := bc hb1; have h1f := bf hb1; have h1z := hb1.size; try simp only [World.size_alloc, World.size_drew] at h1z)
      | (go_at_call 37; refine (HC.out _).mono ?_; rintro e w2 ⟨rfl, hb2⟩; have h2c := bc hb2; have h2f := bf hb2; have h2z := hb2.size; try simp only [World.size_alloc, World.size_drew] at h2z))
  exact ⟨rfl, rfl, .inr ⟨rfl, (by repeat (first | exact brefl _ | assumption | refine balloc ?_ _ | refine bdrew ?_ _ | refine bdrew1 ?_ | refine bthen ?_ (by assumption) | refine Below.trans ?_ (by assumption) | (refine bset ?_ (by first | (simp; done) | (simp; omega)) _)))⟩⟩

set_option maxRecDepth 100000 in
set_option maxHeartbeats 1600000 in
theorem cut1_out2 (a : Option Addr) (n c : Nat) (bs : List UInt8) (k m s : Int) (g0 g1 g2 g4 g5 : Nat) (x y : Value) (w : World) (h : Has w a (bytesV bs)) (hl : bs.length = n) (hn : n ≤ c) (hc : c ≤ maxLen) (hm : n ≤ 1000)
    (hs1 : m ≤ 9223372036854775807) (hs2 : s ≤ 9223372036854775807) (hf : ¬ fitK n 2 k m s) (n0 : ¬ g0 = g4) (n1 : ¬ g1 = g4) (n2 : ¬ g2 = g4) (n3 : ¬ g0 = g5) (n4 : ¬ g1 = g5) (n5 : ¬ g2 = g5) (n6 : ¬ g4 = g5)
    (c0 : w.cell? ⟨g0, 0, none⟩ = some (.slice a n c)) (c1 : w.cell? ⟨g1, 0, none⟩ = some (.int .i64 ((2 : Nat) : Int))) (d0 : w.cell? ⟨g2, 0, none⟩ = some (.int .i64 k)) (d1 : w.cell? ⟨g2, 1, none⟩ = some (.int .i64 m)) (d2 : w.cell? ⟨g2, 2, none⟩ = some (.int .i64 s))
    (c4 : w.cell? ⟨g4, 0, none⟩ = some x) (f4 : w.frozen? ⟨g4, 0, none⟩ = false) (c5 : w.cell? ⟨g5, 0, none⟩ = some y) (f5 : w.frozen? ⟨g5, 0, none⟩ = false) :
    Calls Try.prog 35 #[.pointer (some ⟨g0, 0, none⟩), .pointer (some ⟨g1, 0, none⟩), .pointer (some ⟨g2, 0, none⟩), .pointer (some ⟨g4, 0, none⟩), .pointer (some ⟨g5, 0, none⟩)] w fun e w' =>
      e = .panicked thrown ∧ CutR w g4 g5 ((bs.drop k.toNat).take (lenK n 2 k m s)) false w' := by
  generalize (bs.drop k.toNat).take (lenK n 2 k m s) = cs at *
  have l0 := cell_lt c0
  have l1 := cell_lt c1
  have l2 := cell_lt d0
  have l4 := cell_lt c4
  have l5 := cell_lt c5
  simp only at l0 l1 l2 l4 l5
  clear h hl
  have hcut : ∀ W, Calls Try.prog 38 #[.agg #[.slice a n c], .int .i64 k, .int .i64 m, .int .i64 s] W fun e w' => e = .panicked thrown ∧ Below W.heap.size W w' := fun W => (rows_bad a n c k m s W hs1 hs2 (fun h => hf (by simp only [fitK]; exact h)) hn hc)
  have HC := Lib.hid hcut
  clear hcut hf hs1 hs2
  have hAC := allocC
  have hAF := allocF
  go_enter Try.func35, Try.ntmps35
  go_wp2_with (first
      | (go_at_call 23; refine (of_any _ _ _ _).mono ?_; rintro e w1 ⟨rfl, hb1⟩; have h1c := bc hb1; have h1f := bf hb1; have h1z := hb1.size; try simp only [World.size_alloc, World.size_drew] at h1z)
      | (go_at_call 38; refine (HC.out _).mono ?_; rintro e w2 ⟨rfl, hb2⟩; have h2c := bc hb2; have h2f := bf hb2; have h2z := hb2.size; try simp only [World.size_alloc, World.size_drew] at h2z))
  exact ⟨rfl, rfl, .inr ⟨rfl, (by repeat (first | exact brefl _ | assumption | refine balloc ?_ _ | refine bdrew ?_ _ | refine bdrew1 ?_ | refine bthen ?_ (by assumption) | refine Below.trans ?_ (by assumption) | (refine bset ?_ (by first | (simp; done) | (simp; omega)) _)))⟩⟩

set_option maxRecDepth 100000 in
theorem cut1_any (kd : Nat) (hkd : kd ≤ 2) (a : Option Addr) (n c : Nat) (bs : List UInt8) (k m s : Int) (g0 g1 g2 g4 g5 : Nat) (x y : Value) (w : World) (h : Has w a (bytesV bs)) (hl : bs.length = n) (hn : n ≤ c) (hc : c ≤ maxLen) (hm : n ≤ 1000)
    (hs1 : m ≤ 9223372036854775807) (hs2 : s ≤ 9223372036854775807) (n0 : ¬ g0 = g4) (n1 : ¬ g1 = g4) (n2 : ¬ g2 = g4) (n3 : ¬ g0 = g5) (n4 : ¬ g1 = g5) (n5 : ¬ g2 = g5) (n6 : ¬ g4 = g5)
    (c0 : w.cell? ⟨g0, 0, none⟩ = some (.slice a n c)) (c1 : w.cell? ⟨g1, 0, none⟩ = some (.int .i64 ((kd : Nat) : Int))) (d0 : w.cell? ⟨g2, 0, none⟩ = some (.int .i64 k)) (d1 : w.cell? ⟨g2, 1, none⟩ = some (.int .i64 m)) (d2 : w.cell? ⟨g2, 2, none⟩ = some (.int .i64 s))
    (c4 : w.cell? ⟨g4, 0, none⟩ = some x) (f4 : w.frozen? ⟨g4, 0, none⟩ = false) (c5 : w.cell? ⟨g5, 0, none⟩ = some y) (f5 : w.frozen? ⟨g5, 0, none⟩ = false) :
    Calls Try.prog 35 #[.pointer (some ⟨g0, 0, none⟩), .pointer (some ⟨g1, 0, none⟩), .pointer (some ⟨g2, 0, none⟩), .pointer (some ⟨g4, 0, none⟩), .pointer (some ⟨g5, 0, none⟩)] w fun e w' =>
      (e = .returned (.tuple #[]) ∧ fitK n kd k m s ∧ CutR w g4 g5 ((bs.drop k.toNat).take (lenK n kd k m s)) true w') ∨ (e = .panicked thrown ∧ ¬ fitK n kd k m s ∧ CutR w g4 g5 ((bs.drop k.toNat).take (lenK n kd k m s)) false w') := by
  by_cases hf : fitK n kd k m s
  · have : kd = 0 ∨ kd = 1 ∨ kd = 2 := by omega
    rcases this with rfl | rfl | rfl
    · exact (cut1_in0 a n c bs k m s g0 g1 g2 g4 g5 x y w h hl hn hc hm hs1 hs2 hf n0 n1 n2 n3 n4 n5 n6 c0 c1 d0 d1 d2 c4 f4 c5 f5).mono fun e w' h => .inl ⟨h.1, hf, h.2⟩
    · exact (cut1_in1 a n c bs k m s g0 g1 g2 g4 g5 x y w h hl hn hc hm hs1 hs2 hf n0 n1 n2 n3 n4 n5 n6 c0 c1 d0 d1 d2 c4 f4 c5 f5).mono fun e w' h => .inl ⟨h.1, hf, h.2⟩
    · exact (cut1_in2 a n c bs k m s g0 g1 g2 g4 g5 x y w h hl hn hc hm hs1 hs2 hf n0 n1 n2 n3 n4 n5 n6 c0 c1 d0 d1 d2 c4 f4 c5 f5).mono fun e w' h => .inl ⟨h.1, hf, h.2⟩
  · have : kd = 0 ∨ kd = 1 ∨ kd = 2 := by omega
    rcases this with rfl | rfl | rfl
    · exact (cut1_out0 a n c bs k m s g0 g1 g2 g4 g5 x y w h hl hn hc hm hs1 hs2 hf n0 n1 n2 n3 n4 n5 n6 c0 c1 d0 d1 d2 c4 f4 c5 f5).mono fun e w' h => .inr ⟨h.1, hf, h.2⟩
    · exact (cut1_out1 a n c bs k m s g0 g1 g2 g4 g5 x y w h hl hn hc hm hs1 hs2 hf n0 n1 n2 n3 n4 n5 n6 c0 c1 d0 d1 d2 c4 f4 c5 f5).mono fun e w' h => .inr ⟨h.1, hf, h.2⟩
    · exact (cut1_out2 a n c bs k m s g0 g1 g2 g4 g5 x y w h hl hn hc hm hs1 hs2 hf n0 n1 n2 n3 n4 n5 n6 c0 c1 d0 d1 d2 c4 f4 c5 f5).mono fun e w' h => .inr ⟨h.1, hf, h.2⟩

theorem enter_cut1 (args : Array Value) (w : World) : (callFunc 35 args).run Try.prog w = .ok (.enter 35 args) w := by kernel_rfl
end Go.Proofs.Ytfgkmgabldjpaaa
