/- Joined from: PrForm PrGrid PrMost PrPure PrPure2 PrGOpen PrSpk. -/
import Derived.Test.YtaladlaffglkeaaJ01
import Derived.Test.YtaladlaffglkeaaJ15
import Derived.Test.YtaladlaffglkeaaJ12
import Derived.Test.YtaladlaffglkeaaJ13
import Derived.Test.YtaladlaffglkeaaJ11
section

/- A lookup of glyphs from 0 on as the law of layer 22 writes it: swashlaw22.of. Conditions: bytes in memory; sizes. -/
namespace Go.Proofs.Ytaladlaffglkeaa
open Go.RowKit Go.Lib

theorem BRow.mono {B B' : Nat} {xs : List UInt8} {v : Value} {w : World} (h : BRow B xs v w) (hb : B' ≤ B) : BRow B' xs v w := by
  obtain ⟨a', c', h1, h2, h3⟩ := h
  exact ⟨a', c', h1, owns_mono h2 hb, h3⟩
def off22B (S T : Nat) (l : List UInt8) : List UInt8 := l.flatMap fun x => beN S (x.toNat * T)
def of22B (S T : Nat) (l : List UInt8) : List UInt8 := beN 2 8 ++ beN 2 0 ++ beN 2 l.length ++ off22B S T l
theorem off22B_length (S T : Nat) (l : List UInt8) : (off22B S T l).length = S * l.length := by
  induction l with
  | nil => simp [off22B]
  | cons x l ih => simp only [off22B, List.flatMap_cons, List.length_append, beN_length, List.length_cons] at *; rw [ih, Nat.mul_add]; omega
theorem of22B_length (S T : Nat) (l : List UInt8) : (of22B S T l).length = 6 + S * l.length := by
  simp only [of22B, List.length_append, beN_length, off22B_length]
theorem off22B_snoc (S T : Nat) (l : List UInt8) (q : Nat) (x : UInt8) (h : l[q]? = some x) : off22B S T (l.take (q + 1)) = off22B S T (l.take q) ++ beN S (x.toNat * T) := by
  unfold off22B
  rw [List.take_add_one, List.flatMap_append, h]
  simp
set_option maxRecDepth 100000 in
set_option maxHeartbeats 3200000 in
theorem of22_any (S T : Nat) (hS : S ≤ 4) (hT : T ≤ 2) (a : Option Addr) (n c : Nat) (l : List UInt8) (zs zt : Int) (hzs : zs = (S : Nat)) (hzt : zt = (T : Nat)) (w : World) (h : Has w a (bytesV l)) (hl : l.length = n) (hn : n ≤ 1000) :
    Calls Try.prog 74 #[.slice a n c, .int .i64 zs, .int .i64 zt] w fun e w' => ∃ v, e = .returned v ∧ BRow w.heap.size (of22B S T l) v w' ∧ Below w.heap.size w w' := by
  subst hzs hzt
  have hAC := allocC
  have hAF := allocF
  have HH := Lib.hid h
  have HL := Lib.hid hl
  clear h hl
  have HA0 := Lib.hid (put_row w.heap.size 8 2 8 2 rfl rfl [] (.slice none 0 0) w (BRow.nil _ _) (Nat.le_refl _) (by omega) (by decide) (by decide))
  go_enter Try.func74, Try.ntmps74
  go_wp2_with (first
    | (go_at_call 70; (with_reducible refine HA0.out.mono ?_); rintro e w1 ⟨s1, rfl, hr1, hb1, _⟩; have HB1 := Lib.hid hb1; have hz1 := hb1.size; have HP1 := Lib.hid (put_row w.heap.size 0 2 0 2 rfl rfl _ s1 w1 hr1 hz1 (by omega) (by simp [beN_length]) (by decide)); clear hr1 hb1)
    | (go_at_call 70; (with_reducible refine HP1.out.mono ?_); rintro e w2 ⟨s2, rfl, hr2, hb2, _⟩; have HB2 := Lib.hid (HB1.out.trans hb2); have hz2 := HB2.out.size; have HP2 := Lib.hid (put_row w.heap.size n 2 (n : Nat) 2 rfl rfl _ s2 w2 hr2 hz2 (by omega) (by simp [beN_length]) (by decide)); clear hr2 hb2)
    | (go_at_call 70; (with_reducible refine HP2.out.mono ?_); rintro e w3 ⟨s3, rfl, hr3, hb3, _⟩; have HB3 := Lib.hid (HB2.out.trans hb3); have hz3 := HB3.out.size; have HR3 := Lib.hid hr3; clear hr3 hb3))
  go_loopw [7, 17] (fun v i wr => ∃ j : Nat, j ≤ n ∧ i = .int .i64 (j : Nat) ∧ BRow w.heap.size (beN 2 8 ++ beN 2 0 ++ beN 2 n ++ off22B S T (l.take j)) v wr ∧ Below w.heap.size w wr) (fun _ i _ => n - (Go.RowKit.intOf i).toNat)
  case atStart => exact ⟨0, Nat.zero_le _, rfl, by rw [List.take_zero]; simpa [off22B] using HR3.out, HB3.out⟩
  case round =>
    obtain ⟨j, hj, rfl, hr, hb⟩ := hrel
    rename World => wr
    have HR := Lib.hid hr
    have HB := Lib.hid hb
    have hzr := hb.size
    clear hr hb
    by_cases hlt : j < n
    · obtain ⟨x, hx⟩ : ∃ x, l[j]? = some x := ⟨_, List.getElem?_eq_getElem (by rw [HL.out]; exact hlt)⟩
      obtain ⟨g, o, rfl, hg, hci⟩ := (HH.out.below HB.out).get (by rw [bytesV_length, HL.out]; omega)
      have c0 := hci j (.int .u8 (x.toNat : Nat)) (by simp [bytesV, hx])
      have HO := Lib.hid (off22B_snoc S T l j x hx)
      have bx := x.toNat_lt
      generalize x.toNat = y at *
      have hyT : y * T ≤ 510 := Nat.le_trans (Nat.mul_le_mul (by omega : y ≤ 255) hT) (by decide)
      have e1 : (y : Int) * (T : Int) = ((y * T : Nat) : Int) := by simp
      have w1 : IntKind.i64.wrap ((y : Int) * (T : Int)) = ((y * T : Nat) : Int) := by rw [e1]; exact IntWalk.i64_in _ (by omega)
      have hSl : S * (l.take j).length ≤ 4 * 1000 := Nat.mul_le_mul hS (by rw [List.length_take]; omega)
      have HP := Lib.hid (put_row w.heap.size (y * T) S ((y * T : Nat) : Int) (S : Nat) rfl rfl _ _ wr HR.out hzr (by omega) (by simp only [List.length_append, beN_length, off22B_length]; omega) (by omega))
      generalize y * T = yt at *
      clear hx hci e1
      go_wp2_with (go_at_call 70; (with_reducible refine HP.out.mono ?_); rintro e w5 ⟨s5, rfl, hr5, hb5, _⟩; have HR5 := Lib.hid hr5; have HB5 := Lib.hid (HB.out.trans hb5); clear hr5 hb5)
      go_roundw
      case rel => exact ⟨j + 1, hlt, by go_num, by rw [HO.out, ← List.append_assoc]; exact HR5.out, HB5.out⟩
      case measure => simp [Go.RowKit.intOf]; omega
    · obtain rfl : n = j := by omega
      have hr := HR.out
      rw [List.take_of_length_le (by rw [HL.out]; exact Nat.le_refl _)] at hr
      have HR' := Lib.hid hr
      clear hr HR
      go_wp2_with fail
      go_ret
      exact ⟨_, rfl, by rw [of22B, HL.out]; exact HR'.out, HB.out⟩
end Go.Proofs.Ytaladlaffglkeaa
end
section

/- The bytes of a grid of distances as the law of layer 22 writes them: swashlaw22.WriteGrid. Written by tools/mkprgrid.py. Conditions: a plan in memory; sizes. -/
namespace Go.Proofs.Ytaladlaffglkeaa
open Go.RowKit Go.Lib

def m32g (x : Int) : Nat := if x < 0 then (x + 4294967296).toNat else x.toNat
def valG (S : Nat) (x : Int) : Nat := if S = 4 then m32g x else m16 x
def valsG (S : Nat) (ds : List Int) : List UInt8 := ds.flatMap fun x => beN S (valG S x)
def hdG (k : Nat) : List UInt8 := if k = 0 then List.replicate 4 0 else if k = 1 then List.replicate 8 0 else [0, 0, 0, 1] ++ [0, 0, 0, 0]
def atQ (k : Nat) : Nat := if k = 0 then 16 else 20
def szG (k : Nat) : Nat := if k = 2 then 4 else 2
def tmG (k : Nat) : Nat := if k = 0 then 2 else 1
def gridB (k : Nat) (l r : List UInt8) (ds : List Int) : List UInt8 :=
  hdG k ++ beN 4 (atQ k) ++ beN 4 (atQ k + (6 + szG k * l.length)) ++ beN 4 (atQ k + (6 + szG k * l.length) + (6 + szG k * r.length)) ++ of22B (szG k) (tmG k) l ++ of22B (szG k) (tmG k) r ++ valsG (szG k) ds
theorem valsG_length (S : Nat) (ds : List Int) : (valsG S ds).length = S * ds.length := by
  induction ds with
  | nil => simp [valsG]
  | cons x l ih => simp only [valsG, List.flatMap_cons, List.length_append, beN_length, List.length_cons] at *; rw [ih, Nat.mul_add]; omega
theorem valsG_snoc (S : Nat) (ds : List Int) (q : Nat) (x : Int) (h : ds[q]? = some x) : valsG S (ds.take (q + 1)) = valsG S (ds.take q) ++ beN S (valG S x) := by
  unfold valsG
  rw [List.take_add_one, List.flatMap_append, h]
  simp
theorem u32_of16 {x : Int} (h : -32768 ≤ x ∧ x ≤ 32767) : IntKind.u32.wrap x = (m32g x : Nat) := by
  rw [IntKind.wrap_u32]
  unfold m32g
  split <;> omega
theorem m32g_lt {x : Int} (h : -32768 ≤ x ∧ x ≤ 32767) : m32g x < 4294967296 := by unfold m32g; split <;> omega
theorem made_zeroG (n : Nat) : (madeCells (Value.int .u8 0).cells (n * 1)).toList = bytesV (List.replicate n 0) := by
  show (madeCells #[Value.int .u8 0] (n * 1)).toList = _
  rw [toList_madeCells_one, Nat.mul_one]
  simp [bytesV]
theorem row22 {B n : Nat} {xs : List UInt8} {a : Option Addr} {c : Nat} {w : World} (h : w.ownsRow B 5 1 (.slice a n c) n (bytesV xs)) (h1 : n ≤ c) (h2 : c ≤ maxLen) (h3 : a = none → c = 0) (hn : xs.length = n) : BRow B xs (.slice a n c) w := by
  subst hn
  exact ⟨a, c, rfl, h, h1, h2, h3⟩
theorem of22_row (S T : Nat) (hS : S ≤ 4) (hT : T ≤ 2) (a : Option Addr) (n c : Nat) (l : List UInt8) (zs zt : Int) (hzs : zs = (S : Nat)) (hzt : zt = (T : Nat)) (w : World) (h : Has w a (bytesV l)) (hl : l.length = n) (hn : n ≤ 1000) (N : Nat) (hN : N = 6 + S * n) :
    Calls Try.prog 74 #[.slice a n c, .int .i64 zs, .int .i64 zt] w fun e w' => ∃ g' c', e = .returned (.slice (some ⟨g', 0, none⟩) N c') ∧ w'.ownsRow w.heap.size 5 1 (.slice (some ⟨g', 0, none⟩) N c') N (bytesV (of22B S T l)) ∧ Below w.heap.size w w' := by
  refine (of22_any S T hS hT a n c l zs zt hzs hzt w h hl hn).mono ?_
  rintro e w' ⟨v, rfl, ⟨a', c', rfl, ho, _, _, _⟩, hb⟩
  rw [of22B_length, hl, ← hN] at ho ⊢
  obtain ⟨g', c'', he⟩ : ∃ g' c'', Value.slice a' N c' = .slice (some ⟨g', 0, none⟩) N c'' := by
    rcases ho.2 with ⟨_, h0⟩ | ⟨g, cap, cur, hv, _⟩
    · omega
    · exact ⟨g, cap, hv⟩
  rw [he] at ho ⊢
  exact ⟨g', c'', rfl, ho, hb⟩
set_option maxRecDepth 100000 in
set_option maxHeartbeats 12800000 in
theorem wgrid0_any (al : Option Addr) (nl cl : Nat) (lb : List UInt8) (ar : Option Addr) (nr cr : Nat) (rb : List UInt8) (ad : Option Addr) (nd cd : Nat) (ds : List Int) (w : World) (hl : Has w al (bytesV lb)) (hll : lb.length = nl) (hln : nl ≤ 1000) (hr : Has w ar (bytesV rb)) (hrl : rb.length = nr) (hrn : nr ≤ 1000) (hd : Has w ad (ds.map (Value.int .i16))) (hdl : ds.length = nd) (hdn : nd ≤ 1000) (hdb : ∀ x ∈ ds, -32768 ≤ x ∧ x ≤ 32767) :
    Calls Try.prog 25 #[.agg #[.slice al nl cl, .slice ar nr cr, .slice ad nd cd], .int .i64 0] w fun e w' => ∃ v, e = .returned v ∧ BRow w.heap.size (gridB 0 lb rb ds) v w' ∧ Below w.heap.size w w' := by
  have hAC := allocC
  have hAF := allocF
  have HHL := Lib.hid hl
  have HLL := Lib.hid hll
  have HHR := Lib.hid hr
  have HRL := Lib.hid hrl
  have HHD := Lib.hid hd
  have HDL := Lib.hid hdl
  have HDB := Lib.hid hdb
  clear hl hll hr hrl hd hdl hdb
  obtain ⟨A, hA⟩ : ∃ A, A = w.alloc (Obj.cells #[.slice al nl cl, .slice ar nr cr, .slice ad nd cd] 60) := ⟨_, rfl⟩
  have hbA : Below w.heap.size w A := by rw [hA]; exact balloc (brefl w) _
  have x2 : A.heap[w.heap.size]? = some (.cells #[.slice al nl cl, .slice ar nr cr, .slice ad nd cd] 60 (0, 0)) := by rw [hA]; exact (heap_push _ _ _).trans (if_pos rfl)
  have hzA : w.heap.size + 1 ≤ A.heap.size := (Array.getElem?_eq_some_iff.1 x2).1
  have eA : A.heap.size = w.heap.size + 1 := by rw [hA]; simp
  have X2 := Lib.hid x2
  have HBA := Lib.hid hbA
  clear x2 hbA
  go_enter Try.func25, Try.ntmps25
  go_wp2_with (at_make; rw [← hA]; refine wpMake _ rfl _ _ 22 rfl (w.heap.size + 1) 5 (.int .u8 0) 1 1 Try.underlying22 u8_info 4 rfl rfl (by decide) (by decide) (by exact hzA) ?_; intro w1 hown1 hb1; have O1 := Lib.hid (owns_eq hown1 (made_zeroG 4)); rw [eA] at O1; have HB1 := Lib.hid (hb1.mono hzA); clear hown1 hb1)
  clear hA eA
  have hz1 := Nat.le_trans hzA HB1.out.size
  have Y2 := Lib.hid ((HB1.out.block _ (by omega)).trans X2.out)
  have q2 := fun o => cell_of_heap Y2.out o
  have l2 := (Array.getElem?_eq_some_iff.1 Y2.out).1
  obtain ⟨N9, hN9⟩ : ∃ N9, N9 = 6 + 2 * nl := ⟨_, rfl⟩
  obtain ⟨N10, hN10⟩ : ∃ N10, N10 = 6 + 2 * nr := ⟨_, rfl⟩
  have HO1 := Lib.hid (fun (X : World) (hX : Below w1.heap.size w1 X) => of22_row 2 2 (by decide) (by decide) al nl cl lb 2 2 rfl rfl X (HHL.out.below (HBA.out.trans ((HB1.out.trans (hX.mono hz1)).mono (by omega)))) HLL.out hln N9 hN9)
  have HO2 := Lib.hid (fun (X : World) (hX : Below w1.heap.size w1 X) => of22_row 2 2 (by decide) (by decide) ar nr cr rb 2 2 rfl rfl X (HHR.out.below (HBA.out.trans ((HB1.out.trans (hX.mono hz1)).mono (by omega)))) HRL.out hrn N10 hN10)
  have HN9 := Lib.hid hN9
  have HN10 := Lib.hid hN10
  have hN9' : N9 ≤ 5000 := by omega
  have hN10' : N10 ≤ 5000 := by omega
  have hN9p : 0 < N9 := by omega
  have hN10p : 0 < N10 := by omega
  clear hN9 hN10
  go_wp2_with fail
  refine wp_region_tree (.step 0 (.step 1 (.step 2 (.step 3 (.step 5 (.step 6 (.step 7 (.step 8 (.step 4 (.step 9 (.step 10 (.step 11 .nil)))))))))))) (by kernel_rfl) (by kernel_rfl) (by kernel_rfl) (by kernel_rfl) (by intro _ _ d_ _ _ h_; cases d_ <;> first | exact h_ | (dsimp +zetaDelta only at h_ ⊢; exact h_)) (fun w' => ∃ p : Wld w1 [], w' = p.val) (wld_start _ _) ?_
  have hG_ := @wldC w1
  (refine tree_quiet gtA (by rfl) (by rfl) (fun K_ hK_ => ?_); go_big_quiet_op; refine hK_ _ ?_; clear hK_ K_)
  (refine tree_quiet gtA (by rfl) (by rfl) (fun K_ hK_ => ?_); go_big_quiet_op; refine hK_ _ ?_; clear hK_ K_)
  (refine tree_quiet gtA (by rfl) (by rfl) (fun K_ hK_ => ?_); go_big_quiet_op; refine hK_ _ ?_; clear hK_ K_)
  (refine tree_quiet gtA (by rfl) (by rfl) (fun K_ hK_ => ?_); go_big_quiet_op; refine hK_ _ ?_; clear hK_ K_)
  (refine tree_quiet gtA (by rfl) (by rfl) (fun K_ hK_ => ?_); go_big_quiet_op; refine hK_ _ ?_; clear hK_ K_)
  (refine tree_quiet gtA (by rfl) (by rfl) (fun K_ hK_ => ?_); go_big_quiet_op; refine hK_ _ ?_; clear hK_ K_)
  (refine tree_quiet gtA (by rfl) (by rfl) (fun K_ hK_ => ?_); go_big_quiet_op; refine hK_ _ ?_; clear hK_ K_)
  (refine tree_quiet gtA (by rfl) (by rfl) (fun K_ hK_ => ?_); go_big_quiet_op; refine hK_ _ ?_; clear hK_ K_)
  (refine tree_run gtA (by rfl) (by rfl) (fun K_ hK_ => ?_); have HK_ := Lib.hid hK_; clear hK_; go_wp2_with (first | (go_at_call 74; (with_reducible refine (HO1.out _ (by exact blw)).mono ?_); rintro e w5 ⟨g9, c9, rfl, ho5, hb5⟩; have h5c := bc hb5; have h5f := bf hb5; have h5z := hb5.size; (try simp only [World.size_drew] at h5z)) | (go_at_call 74; (with_reducible refine (HO2.out _ (by exact blw)).mono ?_); rintro e w6 ⟨g10, c10, rfl, ho6, hb6⟩; have h6c := bc hb6; have h6f := bf hb6; have h6z := hb6.size; (try simp only [World.size_drew] at h6z))); refine HK_.out _ _ (wld_ofA) ?_; clear HK_)
  (refine tree_run gtA (by rfl) (by rfl) (fun K_ hK_ => ?_); have HK_ := Lib.hid hK_; clear hK_; go_wp2_with (first | (go_at_call 74; (with_reducible refine (HO1.out _ (by exact blw)).mono ?_); rintro e w5 ⟨g9, c9, rfl, ho5, hb5⟩; have h5c := bc hb5; have h5f := bf hb5; have h5z := hb5.size; (try simp only [World.size_drew] at h5z)) | (go_at_call 74; (with_reducible refine (HO2.out _ (by exact blw)).mono ?_); rintro e w6 ⟨g10, c10, rfl, ho6, hb6⟩; have h6c := bc hb6; have h6f := bf hb6; have h6z := hb6.size; (try simp only [World.size_drew] at h6z))); refine HK_.out _ _ (wld_ofA) ?_; clear HK_)
  (refine tree_quiet gtA (by rfl) (by rfl) (fun K_ hK_ => ?_); go_big_quiet_op; refine hK_ _ ?_; clear hK_ K_)
  (refine tree_quiet gtA (by rfl) (by rfl) (fun K_ hK_ => ?_); go_big_quiet_op; refine hK_ _ ?_; clear hK_ K_)
  refine tree_nil ?_
  clear hG_
  have hb16 : Below w1.heap.size w1 w6 := by exact blw
  have hw15 : w1.heap.size ≤ w5.heap.size := by omega
  have hl9 := (ho5.lt g9 (by rfl))
  have hl10 := (ho6.lt g10 (by rfl))
  have hl8 := fun p (hp : (some ⟨w.heap.size + 1, 0, none⟩) = some p) => owns_lt O1.out p hp
  simp only [World.size_drew] at hl9 hl10
  have T9 := Lib.hid (show Two (w.heap.size + 1) w6 (some ⟨w.heap.size + 1, 0, none⟩) 4 4 (List.replicate 4 0) (some ⟨g9, 0, none⟩) N9 c9 (of22B 2 2 lb) from ⟨owns_below O1.out hb16 (Nat.le_refl _), owns_mono (owns_below ho5 hb6 (Nat.le_refl _)) (by have := (show w1.drew.heap.size = w1.heap.size from by first | rfl | simp); omega), fun p q hp hq => by cases hq; show p.block ≠ g9; have := (hl8 p hp).2; have := (show w1.drew.heap.size = w1.heap.size from by first | rfl | simp); omega⟩)
  have T10 := Lib.hid (show Two (w.heap.size + 1) w6 (some ⟨w.heap.size + 1, 0, none⟩) 4 4 (List.replicate 4 0) (some ⟨g10, 0, none⟩) N10 c10 (of22B 2 2 rb) from ⟨owns_below O1.out hb16 (Nat.le_refl _), owns_mono ho6 (by first | omega | (simp only [World.size_drew]; omega)), fun p q hp hq => by cases hq; show p.block ≠ g10; have := (hl8 p hp).2; have := hl10.1; first | omega | (simp only [World.size_drew] at this; omega)⟩)
  have HB6 := Lib.hid (HB1.out.trans (hb16.mono hz1))
  have hz6 := Nat.le_trans hzA HB6.out.size
  have wa : IntKind.i64.wrap (16 + (N9 : Int)) = 16 + (N9 : Int) := IntWalk.i64_in _ (by omega)
  have wb : IntKind.i64.wrap (16 + (N9 : Int) + (N10 : Int)) = 16 + (N9 : Int) + (N10 : Int) := IntWalk.i64_in _ (by omega)
  clear ho5 ho6 hb5 hb6 hb16 hl8 hl9 hl10 h5c h5f h6c h6f O1 HO1 HO2 q2 l2
  have HP1 := Lib.hid (put_z (w.heap.size + 1) (some ⟨w.heap.size + 1, 0, none⟩) 4 4 16 4 16 4 rfl rfl _ w6 T9.out.o1 hz6 (by decide) (by decide) (by decide))
  go_wp2_with (first
    | (go_at_call 70; (with_reducible refine HP1.out.mono ?_); rintro e w7 ⟨a7, c7, rfl, ho7, _, _, _, hb7, _, hf7⟩; have T97 := Lib.hid (T9.out.put1 hf7 ho7); have T107 := Lib.hid (T10.out.put1 hf7 ho7); have HB7 := Lib.hid (HB6.out.trans hb7); have hz7 := Nat.le_trans hzA HB7.out.size; have HP2 := Lib.hid (put_z (w.heap.size + 1) a7 (4 + 4) c7 (16 + N9) 4 (16 + (N9 : Int)) 4 (by simp) rfl _ w7 ho7 hz7 (by omega) (by decide) (by decide)); clear hf7 ho7 hb7)
    | (go_at_call 70; (with_reducible refine HP2.out.mono ?_); rintro e w8 ⟨a8, c8, rfl, ho8, _, _, _, hb8, _, hf8⟩; have T98 := Lib.hid (T97.out.put1 hf8 ho8); have T108 := Lib.hid (T107.out.put1 hf8 ho8); have HB8 := Lib.hid (HB7.out.trans hb8); have hz8 := Nat.le_trans hzA HB8.out.size; have HP3 := Lib.hid (put_z (w.heap.size + 1) a8 (4 + 4 + 4) c8 (16 + N9 + N10) 4 (16 + (N9 : Int) + (N10 : Int)) 4 (by simp) rfl _ w8 ho8 hz8 (by omega) (by decide) (by decide)); clear hf8 ho8 hb8)
    | (go_at_call 70; (with_reducible refine HP3.out.mono ?_); rintro e wc ⟨ac, cc, rfl, hoc, _, _, _, hbc, _, hfc⟩; have T9c := Lib.hid (T98.out.put1 hfc hoc); have T10c := Lib.hid (T108.out.put1 hfc hoc); have HBc := Lib.hid (HB8.out.trans hbc); have hzc := Nat.le_trans hzA HBc.out.size; clear hfc hoc hbc)
    | (at_builtin; refine wpAppF rfl _ _ 22 rfl (w.heap.size + 1) 5 (.int .u8 0) 1 1 Try.underlying22 u8_info rfl (by decide) ac (4 + 4 + 4 + 4) cc _ rfl T9c.out.o1 ⟨g9, 0, none⟩ N9 c9 hN9p (bytesV (of22B 2 2 lb)) rfl (by rw [bytesV_length, of22B_length, HLL.out, HN9.out, Nat.mul_one]) (has_of_owns T9c.out.o2) (bytesV_one _) (by unfold maxLen; omega) (by omega) hzc ?_; intro ae ce we hoe _ _ _ hbe hge hfe; rw [← bytesV_append] at hoe; have T10e := Lib.hid (T10c.out.put1 (PutFar.grown hge hfe) hoe); have HBe := Lib.hid (HBc.out.trans hbe); have hze := Nat.le_trans hzA HBe.out.size; clear hoe hbe hge hfe)
    | (at_builtin; refine wpAppF rfl _ _ 22 rfl (w.heap.size + 1) 5 (.int .u8 0) 1 1 Try.underlying22 u8_info rfl (by decide) ae (4 + 4 + 4 + 4 + N9) ce _ rfl T10e.out.o1 ⟨g10, 0, none⟩ N10 c10 hN10p (bytesV (of22B 2 2 rb)) rfl (by rw [bytesV_length, of22B_length, HRL.out, HN10.out, Nat.mul_one]) (has_of_owns T10e.out.o2) (bytesV_one _) (by unfold maxLen; omega) (by omega) hze ?_; intro af cf wf hof kf1 kf2 kf3 hbf _ _; rw [← bytesV_append] at hof; have HRf := Lib.hid (row22 hof kf1 kf2 kf3 (by simp only [List.length_append, beN_length, of22B_length, HLL.out, HRL.out, HN9.out, HN10.out]; rfl)); have HBf := Lib.hid (HBe.out.trans hbf); have hzf := Nat.le_trans hzA HBf.out.size; have XFf := Lib.hid ((HBf.out.block _ (by omega)).trans X2.out); have qf := fun o => cell_of_heap XFf.out o; have lf := (Array.getElem?_eq_some_iff.1 XFf.out).1; clear hof kf1 kf2 kf3 hbf))
  go_loopw [8, 58] (fun v i wr => ∃ j : Nat, j ≤ nd ∧ i = .int .i64 (j : Nat) ∧ BRow (w.heap.size + 1) (List.replicate 4 0 ++ beN 4 16 ++ beN 4 (16 + N9) ++ beN 4 (16 + N9 + N10) ++ of22B 2 2 lb ++ of22B 2 2 rb ++ valsG 2 (ds.take j)) v wr ∧ Below (w.heap.size + 1) A wr) (fun _ i _ => nd - (Go.RowKit.intOf i).toNat)
  case atStart => exact ⟨0, Nat.zero_le _, rfl, by rw [List.take_zero]; simpa only [valsG, List.flatMap_nil, List.append_nil] using HRf.out, HBf.out⟩
  case round =>
    obtain ⟨j, hj, rfl, hr, hb⟩ := hrel
    rename World => wr
    have HR := Lib.hid hr
    have HB := Lib.hid hb
    have hzr := Nat.le_trans hzA hb.size
    clear hr hb
    by_cases hlt : j < nd
    · obtain ⟨x, hx⟩ : ∃ x, ds[j]? = some x := ⟨_, List.getElem?_eq_getElem (by rw [HDL.out]; exact hlt)⟩
      have hxb := HDB.out x (List.mem_of_getElem? hx)
      obtain ⟨g, o, rfl, hg, hci⟩ := (HHD.out.below (HBA.out.trans (HB.out.mono (by omega)))).get (by rw [List.length_map, HDL.out]; omega)
      have c0 := hci j (.int .i16 x) (by simp [hx])
      have HO := Lib.hid (valsG_snoc 2 ds j x hx)
      have wu := u16_of16 hxb
      have wm := m16_lt x
      have wm2 : IntKind.i64.wrap ((m16 x : Nat) : Int) = ((m16 x : Nat) : Int) := IntWalk.i64_in _ (by omega)
      have wi : IntKind.i32.wrap x = x := by rw [IntKind.wrap_i32]; omega
      have wv := u32_of16 hxb
      have wn := m32g_lt hxb
      have wn2 : IntKind.i64.wrap ((m32g x : Nat) : Int) = ((m32g x : Nat) : Int) := IntWalk.i64_in _ (by omega)
      have HV := Lib.hid (show valG 2 x = m16 x from rfl)
      have hSl : (valsG 2 (ds.take j)).length ≤ 4 * 1000 := by rw [valsG_length]; exact Nat.mul_le_mul (by decide) (by rw [List.length_take]; omega)
      have hN1 : (of22B 2 2 lb).length ≤ 5000 := by rw [of22B_length, HLL.out, ← HN9.out]; exact hN9'
      have hN2 : (of22B 2 2 rb).length ≤ 5000 := by rw [of22B_length, HRL.out, ← HN10.out]; exact hN10'
      have hYl : (List.replicate 4 0 ++ beN 4 16 ++ beN 4 (16 + N9) ++ beN 4 (16 + N9 + N10) ++ of22B 2 2 lb ++ of22B 2 2 rb ++ valsG 2 (ds.take j) : List UInt8).length ≤ 1000000000 := by
        simp only [List.length_append, beN_length, List.length_replicate, List.length_cons, List.length_nil]
        omega
      have HP := Lib.hid (put_row (w.heap.size + 1) (m16 x) 2 ((m16 x : Nat) : Int) 2 rfl rfl _ _ wr HR.out hzr (by omega) hYl (by decide))
      generalize m16 x = xm at *
      generalize m32g x = xn at *
      clear hx hci hYl
      go_wp2_with (go_at_call 70; (with_reducible refine HP.out.mono ?_); rintro e wk ⟨sk, rfl, hrk, hbk, _⟩; have HRk := Lib.hid hrk; have HBk := Lib.hid (HB.out.trans hbk); clear hrk hbk)
      go_roundw
      case rel => exact ⟨j + 1, hlt, by go_num, by rw [HO.out, HV.out, ← List.append_assoc]; exact HRk.out, HBk.out⟩
      case measure => simp [Go.RowKit.intOf]; omega
    · obtain rfl : nd = j := by omega
      have hr := HR.out
      rw [List.take_of_length_le (by rw [HDL.out]; exact Nat.le_refl _)] at hr
      have HR' := Lib.hid (hr.mono (Nat.le_succ _))
      clear hr HR
      go_wp2_with fail
      go_ret
      exact ⟨_, rfl, by
        have := HR'.out
        rw [HN9.out, HN10.out, ← HLL.out, ← HRL.out] at this
        exact this, HBA.out.trans (HB.out.mono (Nat.le_succ _))⟩
set_option maxRecDepth 100000 in
set_option maxHeartbeats 12800000 in
theorem wgrid1_any (al : Option Addr) (nl cl : Nat) (lb : List UInt8) (ar : Option Addr) (nr cr : Nat) (rb : List UInt8) (ad : Option Addr) (nd cd : Nat) (ds : List Int) (w : World) (hl : Has w al (bytesV lb)) (hll : lb.length = nl) (hln : nl ≤ 1000) (hr : Has w ar (bytesV rb)) (hrl : rb.length = nr) (hrn : nr ≤ 1000) (hd : Has w ad (ds.map (Value.int .i16))) (hdl : ds.length = nd) (hdn : nd ≤ 1000) (hdb : ∀ x ∈ ds, -32768 ≤ x ∧ x ≤ 32767) :
    Calls Try.prog 25 #[.agg #[.slice al nl cl, .slice ar nr cr, .slice ad nd cd], .int .i64 1] w fun e w' => ∃ v, e = .returned v ∧ BRow w.heap.size (gridB 1 lb rb ds) v w' ∧ Below w.heap.size w w' := by
  have hAC := allocC
  have hAF := allocF
  have HHL := Lib.hid hl
  have HLL := Lib.hid hll
  have HHR := Lib.hid hr
  have HRL := Lib.hid hrl
  have HHD := Lib.hid hd
  have HDL := Lib.hid hdl
  have HDB := Lib.hid hdb
  clear hl hll hr hrl hd hdl hdb
  obtain ⟨A, hA⟩ : ∃ A, A = w.alloc (Obj.cells #[.slice al nl cl, .slice ar nr cr, .slice ad nd cd] 60) := ⟨_, rfl⟩
  have hbA : Below w.heap.size w A := by rw [hA]; exact balloc (brefl w) _
  have x2 : A.heap[w.heap.size]? = some (.cells #[.slice al nl cl, .slice ar nr cr, .slice ad nd cd] 60 (0, 0)) := by rw [hA]; exact (heap_push _ _ _).trans (if_pos rfl)
  have hzA : w.heap.size + 1 ≤ A.heap.size := (Array.getElem?_eq_some_iff.1 x2).1
  have eA : A.heap.size = w.heap.size + 1 := by rw [hA]; simp
  have X2 := Lib.hid x2
  have HBA := Lib.hid hbA
  clear x2 hbA
  go_enter Try.func25, Try.ntmps25
  go_wp2_with (at_make; rw [← hA]; refine wpMake _ rfl _ _ 22 rfl (w.heap.size + 1) 5 (.int .u8 0) 1 1 Try.underlying22 u8_info 8 rfl rfl (by decide) (by decide) (by exact hzA) ?_; intro w1 hown1 hb1; have O1 := Lib.hid (owns_eq hown1 (made_zeroG 8)); rw [eA] at O1; have HB1 := Lib.hid (hb1.mono hzA); clear hown1 hb1)
  clear hA eA
  have hz1 := Nat.le_trans hzA HB1.out.size
  have Y2 := Lib.hid ((HB1.out.block _ (by omega)).trans X2.out)
  have q2 := fun o => cell_of_heap Y2.out o
  have l2 := (Array.getElem?_eq_some_iff.1 Y2.out).1
  obtain ⟨N9, hN9⟩ : ∃ N9, N9 = 6 + 2 * nl := ⟨_, rfl⟩
  obtain ⟨N10, hN10⟩ : ∃ N10, N10 = 6 + 2 * nr := ⟨_, rfl⟩
  have HO1 := Lib.hid (fun (X : World) (hX : Below w1.heap.size w1 X) => of22_row 2 1 (by decide) (by decide) al nl cl lb 2 1 rfl rfl X (HHL.out.below (HBA.out.trans ((HB1.out.trans (hX.mono hz1)).mono (by omega)))) HLL.out hln N9 hN9)
  have HO2 := Lib.hid (fun (X : World) (hX : Below w1.heap.size w1 X) => of22_row 2 1 (by decide) (by decide) ar nr cr rb 2 1 rfl rfl X (HHR.out.below (HBA.out.trans ((HB1.out.trans (hX.mono hz1)).mono (by omega)))) HRL.out hrn N10 hN10)
  have HN9 := Lib.hid hN9
  have HN10 := Lib.hid hN10
  have hN9' : N9 ≤ 5000 := by omega
  have hN10' : N10 ≤ 5000 := by omega
  have hN9p : 0 < N9 := by omega
  have hN10p : 0 < N10 := by omega
  clear hN9 hN10
  go_wp2_with fail
  refine wp_region_tree (.step 0 (.step 1 (.step 2 (.step 3 (.step 5 (.step 6 (.step 7 (.step 8 (.step 4 (.step 9 (.step 10 (.step 11 .nil)))))))))))) (by kernel_rfl) (by kernel_rfl) (by kernel_rfl) (by kernel_rfl) (by intro _ _ d_ _ _ h_; cases d_ <;> first | exact h_ | (dsimp +zetaDelta only at h_ ⊢; exact h_)) (fun w' => ∃ p : Wld w1 [], w' = p.val) (wld_start _ _) ?_
  have hG_ := @wldC w1
  (refine tree_quiet gtA (by rfl) (by rfl) (fun K_ hK_ => ?_); go_big_quiet_op; refine hK_ _ ?_; clear hK_ K_)
  (refine tree_quiet gtA (by rfl) (by rfl) (fun K_ hK_ => ?_); go_big_quiet_op; refine hK_ _ ?_; clear hK_ K_)
  (refine tree_quiet gtA (by rfl) (by rfl) (fun K_ hK_ => ?_); go_big_quiet_op; refine hK_ _ ?_; clear hK_ K_)
  (refine tree_quiet gtA (by rfl) (by rfl) (fun K_ hK_ => ?_); go_big_quiet_op; refine hK_ _ ?_; clear hK_ K_)
  (refine tree_quiet gtA (by rfl) (by rfl) (fun K_ hK_ => ?_); go_big_quiet_op; refine hK_ _ ?_; clear hK_ K_)
  (refine tree_quiet gtA (by rfl) (by rfl) (fun K_ hK_ => ?_); go_big_quiet_op; refine hK_ _ ?_; clear hK_ K_)
  (refine tree_quiet gtA (by rfl) (by rfl) (fun K_ hK_ => ?_); go_big_quiet_op; refine hK_ _ ?_; clear hK_ K_)
  (refine tree_quiet gtA (by rfl) (by rfl) (fun K_ hK_ => ?_); go_big_quiet_op; refine hK_ _ ?_; clear hK_ K_)
  (refine tree_run gtA (by rfl) (by rfl) (fun K_ hK_ => ?_); have HK_ := Lib.hid hK_; clear hK_; go_wp2_with (first | (go_at_call 74; (with_reducible refine (HO1.out _ (by exact blw)).mono ?_); rintro e w5 ⟨g9, c9, rfl, ho5, hb5⟩; have h5c := bc hb5; have h5f := bf hb5; have h5z := hb5.size; (try simp only [World.size_drew] at h5z)) | (go_at_call 74; (with_reducible refine (HO2.out _ (by exact blw)).mono ?_); rintro e w6 ⟨g10, c10, rfl, ho6, hb6⟩; have h6c := bc hb6; have h6f := bf hb6; have h6z := hb6.size; (try simp only [World.size_drew] at h6z))); refine HK_.out _ _ (wld_ofA) ?_; clear HK_)
  (refine tree_run gtA (by rfl) (by rfl) (fun K_ hK_ => ?_); have HK_ := Lib.hid hK_; clear hK_; go_wp2_with (first | (go_at_call 74; (with_reducible refine (HO1.out _ (by exact blw)).mono ?_); rintro e w5 ⟨g9, c9, rfl, ho5, hb5⟩; have h5c := bc hb5; have h5f := bf hb5; have h5z := hb5.size; (try simp only [World.size_drew] at h5z)) | (go_at_call 74; (with_reducible refine (HO2.out _ (by exact blw)).mono ?_); rintro e w6 ⟨g10, c10, rfl, ho6, hb6⟩; have h6c := bc hb6; have h6f := bf hb6; have h6z := hb6.size; (try simp only [World.size_drew] at h6z))); refine HK_.out _ _ (wld_ofA) ?_; clear HK_)
  (refine tree_quiet gtA (by rfl) (by rfl) (fun K_ hK_ => ?_); go_big_quiet_op; refine hK_ _ ?_; clear hK_ K_)
  (refine tree_quiet gtA (by rfl) (by rfl) (fun K_ hK_ => ?_); go_big_quiet_op; refine hK_ _ ?_; clear hK_ K_)
  refine tree_nil ?_
  clear hG_
  have hb16 : Below w1.heap.size w1 w6 := by exact blw
  have hw15 : w1.heap.size ≤ w5.heap.size := by omega
  have hl9 := (ho5.lt g9 (by rfl))
  have hl10 := (ho6.lt g10 (by rfl))
  have hl8 := fun p (hp : (some ⟨w.heap.size + 1, 0, none⟩) = some p) => owns_lt O1.out p hp
  simp only [World.size_drew] at hl9 hl10
  have T9 := Lib.hid (show Two (w.heap.size + 1) w6 (some ⟨w.heap.size + 1, 0, none⟩) 8 8 (List.replicate 8 0) (some ⟨g9, 0, none⟩) N9 c9 (of22B 2 1 lb) from ⟨owns_below O1.out hb16 (Nat.le_refl _), owns_mono (owns_below ho5 hb6 (Nat.le_refl _)) (by have := (show w1.drew.heap.size = w1.heap.size from by first | rfl | simp); omega), fun p q hp hq => by cases hq; show p.block ≠ g9; have := (hl8 p hp).2; have := (show w1.drew.heap.size = w1.heap.size from by first | rfl | simp); omega⟩)
  have T10 := Lib.hid (show Two (w.heap.size + 1) w6 (some ⟨w.heap.size + 1, 0, none⟩) 8 8 (List.replicate 8 0) (some ⟨g10, 0, none⟩) N10 c10 (of22B 2 1 rb) from ⟨owns_below O1.out hb16 (Nat.le_refl _), owns_mono ho6 (by first | omega | (simp only [World.size_drew]; omega)), fun p q hp hq => by cases hq; show p.block ≠ g10; have := (hl8 p hp).2; have := hl10.1; first | omega | (simp only [World.size_drew] at this; omega)⟩)
  have HB6 := Lib.hid (HB1.out.trans (hb16.mono hz1))
  have hz6 := Nat.le_trans hzA HB6.out.size
  have wa : IntKind.i64.wrap (20 + (N9 : Int)) = 20 + (N9 : Int) := IntWalk.i64_in _ (by omega)
  have wb : IntKind.i64.wrap (20 + (N9 : Int) + (N10 : Int)) = 20 + (N9 : Int) + (N10 : Int) := IntWalk.i64_in _ (by omega)
  clear ho5 ho6 hb5 hb6 hb16 hl8 hl9 hl10 h5c h5f h6c h6f O1 HO1 HO2 q2 l2
  have HP1 := Lib.hid (put_z (w.heap.size + 1) (some ⟨w.heap.size + 1, 0, none⟩) 8 8 20 4 20 4 rfl rfl _ w6 T9.out.o1 hz6 (by decide) (by decide) (by decide))
  go_wp2_with (first
    | (go_at_call 70; (with_reducible refine HP1.out.mono ?_); rintro e w7 ⟨a7, c7, rfl, ho7, _, _, _, hb7, _, hf7⟩; have T97 := Lib.hid (T9.out.put1 hf7 ho7); have T107 := Lib.hid (T10.out.put1 hf7 ho7); have HB7 := Lib.hid (HB6.out.trans hb7); have hz7 := Nat.le_trans hzA HB7.out.size; have HP2 := Lib.hid (put_z (w.heap.size + 1) a7 (8 + 4) c7 (20 + N9) 4 (20 + (N9 : Int)) 4 (by simp) rfl _ w7 ho7 hz7 (by omega) (by decide) (by decide)); clear hf7 ho7 hb7)
    | (go_at_call 70; (with_reducible refine HP2.out.mono ?_); rintro e w8 ⟨a8, c8, rfl, ho8, _, _, _, hb8, _, hf8⟩; have T98 := Lib.hid (T97.out.put1 hf8 ho8); have T108 := Lib.hid (T107.out.put1 hf8 ho8); have HB8 := Lib.hid (HB7.out.trans hb8); have hz8 := Nat.le_trans hzA HB8.out.size; have HP3 := Lib.hid (put_z (w.heap.size + 1) a8 (8 + 4 + 4) c8 (20 + N9 + N10) 4 (20 + (N9 : Int) + (N10 : Int)) 4 (by simp) rfl _ w8 ho8 hz8 (by omega) (by decide) (by decide)); clear hf8 ho8 hb8)
    | (go_at_call 70; (with_reducible refine HP3.out.mono ?_); rintro e wc ⟨ac, cc, rfl, hoc, _, _, _, hbc, _, hfc⟩; have T9c := Lib.hid (T98.out.put1 hfc hoc); have T10c := Lib.hid (T108.out.put1 hfc hoc); have HBc := Lib.hid (HB8.out.trans hbc); have hzc := Nat.le_trans hzA HBc.out.size; clear hfc hoc hbc)
    | (at_builtin; refine wpAppF rfl _ _ 22 rfl (w.heap.size + 1) 5 (.int .u8 0) 1 1 Try.underlying22 u8_info rfl (by decide) ac (8 + 4 + 4 + 4) cc _ rfl T9c.out.o1 ⟨g9, 0, none⟩ N9 c9 hN9p (bytesV (of22B 2 1 lb)) rfl (by rw [bytesV_length, of22B_length, HLL.out, HN9.out, Nat.mul_one]) (has_of_owns T9c.out.o2) (bytesV_one _) (by unfold maxLen; omega) (by omega) hzc ?_; intro ae ce we hoe _ _ _ hbe hge hfe; rw [← bytesV_append] at hoe; have T10e := Lib.hid (T10c.out.put1 (PutFar.grown hge hfe) hoe); have HBe := Lib.hid (HBc.out.trans hbe); have hze := Nat.le_trans hzA HBe.out.size; clear hoe hbe hge hfe)
    | (at_builtin; refine wpAppF rfl _ _ 22 rfl (w.heap.size + 1) 5 (.int .u8 0) 1 1 Try.underlying22 u8_info rfl (by decide) ae (8 + 4 + 4 + 4 + N9) ce _ rfl T10e.out.o1 ⟨g10, 0, none⟩ N10 c10 hN10p (bytesV (of22B 2 1 rb)) rfl (by rw [bytesV_length, of22B_length, HRL.out, HN10.out, Nat.mul_one]) (has_of_owns T10e.out.o2) (bytesV_one _) (by unfold maxLen; omega) (by omega) hze ?_; intro af cf wf hof kf1 kf2 kf3 hbf _ _; rw [← bytesV_append] at hof; have HRf := Lib.hid (row22 hof kf1 kf2 kf3 (by simp only [List.length_append, beN_length, of22B_length, HLL.out, HRL.out, HN9.out, HN10.out]; rfl)); have HBf := Lib.hid (HBe.out.trans hbf); have hzf := Nat.le_trans hzA HBf.out.size; have XFf := Lib.hid ((HBf.out.block _ (by omega)).trans X2.out); have qf := fun o => cell_of_heap XFf.out o; have lf := (Array.getElem?_eq_some_iff.1 XFf.out).1; clear hof kf1 kf2 kf3 hbf))
  go_loopw [8, 58] (fun v i wr => ∃ j : Nat, j ≤ nd ∧ i = .int .i64 (j : Nat) ∧ BRow (w.heap.size + 1) (List.replicate 8 0 ++ beN 4 20 ++ beN 4 (20 + N9) ++ beN 4 (20 + N9 + N10) ++ of22B 2 1 lb ++ of22B 2 1 rb ++ valsG 2 (ds.take j)) v wr ∧ Below (w.heap.size + 1) A wr) (fun _ i _ => nd - (Go.RowKit.intOf i).toNat)
  case atStart => exact ⟨0, Nat.zero_le _, rfl, by rw [List.take_zero]; simpa only [valsG, List.flatMap_nil, List.append_nil] using HRf.out, HBf.out⟩
  case round =>
    obtain ⟨j, hj, rfl, hr, hb⟩ := hrel
    rename World => wr
    have HR := Lib.hid hr
    have HB := Lib.hid hb
    have hzr := Nat.le_trans hzA hb.size
    clear hr hb
    by_cases hlt : j < nd
    · obtain ⟨x, hx⟩ : ∃ x, ds[j]? = some x := ⟨_, List.getElem?_eq_getElem (by rw [HDL.out]; exact hlt)⟩
      have hxb := HDB.out x (List.mem_of_getElem? hx)
      obtain ⟨g, o, rfl, hg, hci⟩ := (HHD.out.below (HBA.out.trans (HB.out.mono (by omega)))).get (by rw [List.length_map, HDL.out]; omega)
      have c0 := hci j (.int .i16 x) (by simp [hx])
      have HO := Lib.hid (valsG_snoc 2 ds j x hx)
      have wu := u16_of16 hxb
      have wm := m16_lt x
      have wm2 : IntKind.i64.wrap ((m16 x : Nat) : Int) = ((m16 x : Nat) : Int) := IntWalk.i64_in _ (by omega)
      have wi : IntKind.i32.wrap x = x := by rw [IntKind.wrap_i32]; omega
      have wv := u32_of16 hxb
      have wn := m32g_lt hxb
      have wn2 : IntKind.i64.wrap ((m32g x : Nat) : Int) = ((m32g x : Nat) : Int) := IntWalk.i64_in _ (by omega)
      have HV := Lib.hid (show valG 2 x = m16 x from rfl)
      have hSl : (valsG 2 (ds.take j)).length ≤ 4 * 1000 := by rw [valsG_length]; exact Nat.mul_le_mul (by decide) (by rw [List.length_take]; omega)
      have hN1 : (of22B 2 1 lb).length ≤ 5000 := by rw [of22B_length, HLL.out, ← HN9.out]; exact hN9'
      have hN2 : (of22B 2 1 rb).length ≤ 5000 := by rw [of22B_length, HRL.out, ← HN10.out]; exact hN10'
      have hYl : (List.replicate 8 0 ++ beN 4 20 ++ beN 4 (20 + N9) ++ beN 4 (20 + N9 + N10) ++ of22B 2 1 lb ++ of22B 2 1 rb ++ valsG 2 (ds.take j) : List UInt8).length ≤ 1000000000 := by
        simp only [List.length_append, beN_length, List.length_replicate, List.length_cons, List.length_nil]
        omega
      have HP := Lib.hid (put_row (w.heap.size + 1) (m16 x) 2 ((m16 x : Nat) : Int) 2 rfl rfl _ _ wr HR.out hzr (by omega) hYl (by decide))
      generalize m16 x = xm at *
      generalize m32g x = xn at *
      clear hx hci hYl
      go_wp2_with (go_at_call 70; (with_reducible refine HP.out.mono ?_); rintro e wk ⟨sk, rfl, hrk, hbk, _⟩; have HRk := Lib.hid hrk; have HBk := Lib.hid (HB.out.trans hbk); clear hrk hbk)
      go_roundw
      case rel => exact ⟨j + 1, hlt, by go_num, by rw [HO.out, HV.out, ← List.append_assoc]; exact HRk.out, HBk.out⟩
      case measure => simp [Go.RowKit.intOf]; omega
    · obtain rfl : nd = j := by omega
      have hr := HR.out
      rw [List.take_of_length_le (by rw [HDL.out]; exact Nat.le_refl _)] at hr
      have HR' := Lib.hid (hr.mono (Nat.le_succ _))
      clear hr HR
      go_wp2_with fail
      go_ret
      exact ⟨_, rfl, by
        have := HR'.out
        rw [HN9.out, HN10.out, ← HLL.out, ← HRL.out] at this
        exact this, HBA.out.trans (HB.out.mono (Nat.le_succ _))⟩
set_option maxRecDepth 100000 in
set_option maxHeartbeats 12800000 in
theorem wgrid2_any (al : Option Addr) (nl cl : Nat) (lb : List UInt8) (ar : Option Addr) (nr cr : Nat) (rb : List UInt8) (ad : Option Addr) (nd cd : Nat) (ds : List Int) (w : World) (hl : Has w al (bytesV lb)) (hll : lb.length = nl) (hln : nl ≤ 1000) (hr : Has w ar (bytesV rb)) (hrl : rb.length = nr) (hrn : nr ≤ 1000) (hd : Has w ad (ds.map (Value.int .i16))) (hdl : ds.length = nd) (hdn : nd ≤ 1000) (hdb : ∀ x ∈ ds, -32768 ≤ x ∧ x ≤ 32767) :
    Calls Try.prog 25 #[.agg #[.slice al nl cl, .slice ar nr cr, .slice ad nd cd], .int .i64 2] w fun e w' => ∃ v, e = .returned v ∧ BRow w.heap.size (gridB 2 lb rb ds) v w' ∧ Below w.heap.size w w' := by
  have hAC := allocC
  have hAF := allocF
  have HHL := Lib.hid hl
  have HLL := Lib.hid hll
  have HHR := Lib.hid hr
  have HRL := Lib.hid hrl
  have HHD := Lib.hid hd
  have HDL := Lib.hid hdl
  have HDB := Lib.hid hdb
  clear hl hll hr hrl hd hdl hdb
  obtain ⟨A, hA⟩ : ∃ A, A = w.alloc (Obj.cells #[.slice al nl cl, .slice ar nr cr, .slice ad nd cd] 60) := ⟨_, rfl⟩
  have hbA : Below w.heap.size w A := by rw [hA]; exact balloc (brefl w) _
  have x2 : A.heap[w.heap.size]? = some (.cells #[.slice al nl cl, .slice ar nr cr, .slice ad nd cd] 60 (0, 0)) := by rw [hA]; exact (heap_push _ _ _).trans (if_pos rfl)
  have hzA : w.heap.size + 1 ≤ A.heap.size := (Array.getElem?_eq_some_iff.1 x2).1
  have eA : A.heap.size = w.heap.size + 1 := by rw [hA]; simp
  have X2 := Lib.hid x2
  have HBA := Lib.hid hbA
  clear x2 hbA
  go_enter Try.func25, Try.ntmps25
  have OW := Lib.hid (show ((A.alloc (Obj.cells #[.int .u8 0, .int .u8 0, .int .u8 0, .int .u8 1] 5)).alloc (Obj.cells #[.int .u8 0, .int .u8 0, .int .u8 0, .int .u8 0] 5)).ownsRow (w.heap.size + 1) 5 1 (.slice (some ⟨w.heap.size + 1, 0, none⟩) 4 4) 4 (bytesV [0, 0, 0, 1]) from by
    have := owns_below (owns_mono (World.ownsRow_lit (e := 5) (size := 1) A #[.int .u8 0, .int .u8 0, .int .u8 0, .int .u8 1] 4 (Nat.le_refl _) (by decide) rfl) hzA) (balloc (brefl _) (Obj.cells #[.int .u8 0, .int .u8 0, .int .u8 0, .int .u8 0] 5)) (Nat.le_refl _)
    rw [eA] at this
    exact this)
  have HS := Lib.hid (show Has ((A.alloc (Obj.cells #[.int .u8 0, .int .u8 0, .int .u8 0, .int .u8 1] 5)).alloc (Obj.cells #[.int .u8 0, .int .u8 0, .int .u8 0, .int .u8 0] 5)) (some ⟨w.heap.size + 1 + 1, 0, none⟩) (bytesV [0, 0, 0, 0]) from by
    have := has_alloc (A.alloc (Obj.cells #[.int .u8 0, .int .u8 0, .int .u8 0, .int .u8 1] 5)) #[.int .u8 0, .int .u8 0, .int .u8 0, .int .u8 0] 5
    rw [World.size_alloc, eA] at this
    exact this)
  have HBZ := Lib.hid (show Below (w.heap.size + 1) A ((A.alloc (Obj.cells #[.int .u8 0, .int .u8 0, .int .u8 0, .int .u8 1] 5)).alloc (Obj.cells #[.int .u8 0, .int .u8 0, .int .u8 0, .int .u8 0] 5)) from (balloc (balloc (brefl A) _) _).mono hzA)
  go_wp2_with (at_builtin; rw [← hA]; refine wpAppF rfl _ _ 22 rfl (w.heap.size + 1) 5 (.int .u8 0) 1 1 Try.underlying22 u8_info rfl (by decide) (some ⟨w.heap.size + 1, 0, none⟩) 4 4 (bytesV [0, 0, 0, 1]) rfl OW.out ⟨w.heap.size + 1 + 1, 0, none⟩ 4 4 (by decide) (bytesV [0, 0, 0, 0]) rfl rfl HS.out (bytesV_one _) (by decide) (by decide) (Nat.le_trans hzA HBZ.out.size) ?_; intro a1 c1 w1 hown1 k11 k12 k13 hb1 hg1 hf1; rw [← bytesV_append] at hown1; have O1 := Lib.hid hown1; have HB1 := Lib.hid (HBZ.out.trans hb1); clear hown1 k11 k12 k13 hb1 hg1 hf1; (try dsimp only [Act.put]); (try simp only [Nat.reduceAdd]); (try simp only [List.setIfInBounds_toArray, List.set_cons_succ, List.set_cons_zero]))
  clear hA eA
  have hz1 := Nat.le_trans hzA HB1.out.size
  have Y2 := Lib.hid ((HB1.out.block _ (by omega)).trans X2.out)
  have q2 := fun o => cell_of_heap Y2.out o
  have l2 := (Array.getElem?_eq_some_iff.1 Y2.out).1
  obtain ⟨N9, hN9⟩ : ∃ N9, N9 = 6 + 4 * nl := ⟨_, rfl⟩
  obtain ⟨N10, hN10⟩ : ∃ N10, N10 = 6 + 4 * nr := ⟨_, rfl⟩
  have HO1 := Lib.hid (fun (X : World) (hX : Below w1.heap.size w1 X) => of22_row 4 1 (by decide) (by decide) al nl cl lb 4 1 rfl rfl X (HHL.out.below (HBA.out.trans ((HB1.out.trans (hX.mono hz1)).mono (by omega)))) HLL.out hln N9 hN9)
  have HO2 := Lib.hid (fun (X : World) (hX : Below w1.heap.size w1 X) => of22_row 4 1 (by decide) (by decide) ar nr cr rb 4 1 rfl rfl X (HHR.out.below (HBA.out.trans ((HB1.out.trans (hX.mono hz1)).mono (by omega)))) HRL.out hrn N10 hN10)
  have HN9 := Lib.hid hN9
  have HN10 := Lib.hid hN10
  have hN9' : N9 ≤ 5000 := by omega
  have hN10' : N10 ≤ 5000 := by omega
  have hN9p : 0 < N9 := by omega
  have hN10p : 0 < N10 := by omega
  clear hN9 hN10
  go_wp2_with fail
  refine wp_region_tree (.step 0 (.step 1 (.step 2 (.step 3 (.step 5 (.step 6 (.step 7 (.step 8 (.step 4 (.step 9 (.step 10 (.step 11 .nil)))))))))))) (by kernel_rfl) (by kernel_rfl) (by kernel_rfl) (by kernel_rfl) (by intro _ _ d_ _ _ h_; cases d_ <;> first | exact h_ | (dsimp +zetaDelta only at h_ ⊢; exact h_)) (fun w' => ∃ p : Wld w1 [], w' = p.val) (wld_start _ _) ?_
  have hG_ := @wldC w1
  (refine tree_quiet gtA (by rfl) (by rfl) (fun K_ hK_ => ?_); go_big_quiet_op; refine hK_ _ ?_; clear hK_ K_)
  (refine tree_quiet gtA (by rfl) (by rfl) (fun K_ hK_ => ?_); go_big_quiet_op; refine hK_ _ ?_; clear hK_ K_)
  (refine tree_quiet gtA (by rfl) (by rfl) (fun K_ hK_ => ?_); go_big_quiet_op; refine hK_ _ ?_; clear hK_ K_)
  (refine tree_quiet gtA (by rfl) (by rfl) (fun K_ hK_ => ?_); go_big_quiet_op; refine hK_ _ ?_; clear hK_ K_)
  (refine tree_quiet gtA (by rfl) (by rfl) (fun K_ hK_ => ?_); go_big_quiet_op; refine hK_ _ ?_; clear hK_ K_)
  (refine tree_quiet gtA (by rfl) (by rfl) (fun K_ hK_ => ?_); go_big_quiet_op; refine hK_ _ ?_; clear hK_ K_)
  (refine tree_quiet gtA (by rfl) (by rfl) (fun K_ hK_ => ?_); go_big_quiet_op; refine hK_ _ ?_; clear hK_ K_)
  (refine tree_quiet gtA (by rfl) (by rfl) (fun K_ hK_ => ?_); go_big_quiet_op; refine hK_ _ ?_; clear hK_ K_)
  (refine tree_run gtA (by rfl) (by rfl) (fun K_ hK_ => ?_); have HK_ := Lib.hid hK_; clear hK_; go_wp2_with (first | (go_at_call 74; (with_reducible refine (HO1.out _ (by exact blw)).mono ?_); rintro e w5 ⟨g9, c9, rfl, ho5, hb5⟩; have h5c := bc hb5; have h5f := bf hb5; have h5z := hb5.size; (try simp only [World.size_drew] at h5z)) | (go_at_call 74; (with_reducible refine (HO2.out _ (by exact blw)).mono ?_); rintro e w6 ⟨g10, c10, rfl, ho6, hb6⟩; have h6c := bc hb6; have h6f := bf hb6; have h6z := hb6.size; (try simp only [World.size_drew] at h6z))); refine HK_.out _ _ (wld_ofA) ?_; clear HK_)
  (refine tree_run gtA (by rfl) (by rfl) (fun K_ hK_ => ?_); have HK_ := Lib.hid hK_; clear hK_; go_wp2_with (first | (go_at_call 74; (with_reducible refine (HO1.out _ (by exact blw)).mono ?_); rintro e w5 ⟨g9, c9, rfl, ho5, hb5⟩; have h5c := bc hb5; have h5f := bf hb5; have h5z := hb5.size; (try simp only [World.size_drew] at h5z)) | (go_at_call 74; (with_reducible refine (HO2.out _ (by exact blw)).mono ?_); rintro e w6 ⟨g10, c10, rfl, ho6, hb6⟩; have h6c := bc hb6; have h6f := bf hb6; have h6z := hb6.size; (try simp only [World.size_drew] at h6z))); refine HK_.out _ _ (wld_ofA) ?_; clear HK_)
  (refine tree_quiet gtA (by rfl) (by rfl) (fun K_ hK_ => ?_); go_big_quiet_op; refine hK_ _ ?_; clear hK_ K_)
  (refine tree_quiet gtA (by rfl) (by rfl) (fun K_ hK_ => ?_); go_big_quiet_op; refine hK_ _ ?_; clear hK_ K_)
  refine tree_nil ?_
  clear hG_
  have hb16 : Below w1.heap.size w1 w6 := by exact blw
  have hw15 : w1.heap.size ≤ w5.heap.size := by omega
  have hl9 := (ho5.lt g9 (by rfl))
  have hl10 := (ho6.lt g10 (by rfl))
  have hl8 := fun p (hp : a1 = some p) => owns_lt O1.out p hp
  simp only [World.size_drew] at hl9 hl10
  have T9 := Lib.hid (show Two (w.heap.size + 1) w6 a1 8 c1 ([0, 0, 0, 1] ++ [0, 0, 0, 0]) (some ⟨g9, 0, none⟩) N9 c9 (of22B 4 1 lb) from ⟨owns_below O1.out hb16 (Nat.le_refl _), owns_mono (owns_below ho5 hb6 (Nat.le_refl _)) (by have := (show w1.drew.heap.size = w1.heap.size from by first | rfl | simp); omega), fun p q hp hq => by cases hq; show p.block ≠ g9; have := (hl8 p hp).2; have := (show w1.drew.heap.size = w1.heap.size from by first | rfl | simp); omega⟩)
  have T10 := Lib.hid (show Two (w.heap.size + 1) w6 a1 8 c1 ([0, 0, 0, 1] ++ [0, 0, 0, 0]) (some ⟨g10, 0, none⟩) N10 c10 (of22B 4 1 rb) from ⟨owns_below O1.out hb16 (Nat.le_refl _), owns_mono ho6 (by first | omega | (simp only [World.size_drew]; omega)), fun p q hp hq => by cases hq; show p.block ≠ g10; have := (hl8 p hp).2; have := hl10.1; first | omega | (simp only [World.size_drew] at this; omega)⟩)
  have HB6 := Lib.hid (HB1.out.trans (hb16.mono hz1))
  have hz6 := Nat.le_trans hzA HB6.out.size
  have wa : IntKind.i64.wrap (20 + (N9 : Int)) = 20 + (N9 : Int) := IntWalk.i64_in _ (by omega)
  have wb : IntKind.i64.wrap (20 + (N9 : Int) + (N10 : Int)) = 20 + (N9 : Int) + (N10 : Int) := IntWalk.i64_in _ (by omega)
  clear ho5 ho6 hb5 hb6 hb16 hl8 hl9 hl10 h5c h5f h6c h6f O1 HO1 HO2 q2 l2
  have HP1 := Lib.hid (put_z (w.heap.size + 1) a1 8 c1 20 4 20 4 rfl rfl _ w6 T9.out.o1 hz6 (by decide) (by decide) (by decide))
  go_wp2_with (first
    | (go_at_call 70; (with_reducible refine HP1.out.mono ?_); rintro e w7 ⟨a7, c7, rfl, ho7, _, _, _, hb7, _, hf7⟩; have T97 := Lib.hid (T9.out.put1 hf7 ho7); have T107 := Lib.hid (T10.out.put1 hf7 ho7); have HB7 := Lib.hid (HB6.out.trans hb7); have hz7 := Nat.le_trans hzA HB7.out.size; have HP2 := Lib.hid (put_z (w.heap.size + 1) a7 (8 + 4) c7 (20 + N9) 4 (20 + (N9 : Int)) 4 (by simp) rfl _ w7 ho7 hz7 (by omega) (by decide) (by decide)); clear hf7 ho7 hb7)
    | (go_at_call 70; (with_reducible refine HP2.out.mono ?_); rintro e w8 ⟨a8, c8, rfl, ho8, _, _, _, hb8, _, hf8⟩; have T98 := Lib.hid (T97.out.put1 hf8 ho8); have T108 := Lib.hid (T107.out.put1 hf8 ho8); have HB8 := Lib.hid (HB7.out.trans hb8); have hz8 := Nat.le_trans hzA HB8.out.size; have HP3 := Lib.hid (put_z (w.heap.size + 1) a8 (8 + 4 + 4) c8 (20 + N9 + N10) 4 (20 + (N9 : Int) + (N10 : Int)) 4 (by simp) rfl _ w8 ho8 hz8 (by omega) (by decide) (by decide)); clear hf8 ho8 hb8)
    | (go_at_call 70; (with_reducible refine HP3.out.mono ?_); rintro e wc ⟨ac, cc, rfl, hoc, _, _, _, hbc, _, hfc⟩; have T9c := Lib.hid (T98.out.put1 hfc hoc); have T10c := Lib.hid (T108.out.put1 hfc hoc); have HBc := Lib.hid (HB8.out.trans hbc); have hzc := Nat.le_trans hzA HBc.out.size; clear hfc hoc hbc)
    | (at_builtin; refine wpAppF rfl _ _ 22 rfl (w.heap.size + 1) 5 (.int .u8 0) 1 1 Try.underlying22 u8_info rfl (by decide) ac (8 + 4 + 4 + 4) cc _ rfl T9c.out.o1 ⟨g9, 0, none⟩ N9 c9 hN9p (bytesV (of22B 4 1 lb)) rfl (by rw [bytesV_length, of22B_length, HLL.out, HN9.out, Nat.mul_one]) (has_of_owns T9c.out.o2) (bytesV_one _) (by unfold maxLen; omega) (by omega) hzc ?_; intro ae ce we hoe _ _ _ hbe hge hfe; rw [← bytesV_append] at hoe; have T10e := Lib.hid (T10c.out.put1 (PutFar.grown hge hfe) hoe); have HBe := Lib.hid (HBc.out.trans hbe); have hze := Nat.le_trans hzA HBe.out.size; clear hoe hbe hge hfe)
    | (at_builtin; refine wpAppF rfl _ _ 22 rfl (w.heap.size + 1) 5 (.int .u8 0) 1 1 Try.underlying22 u8_info rfl (by decide) ae (8 + 4 + 4 + 4 + N9) ce _ rfl T10e.out.o1 ⟨g10, 0, none⟩ N10 c10 hN10p (bytesV (of22B 4 1 rb)) rfl (by rw [bytesV_length, of22B_length, HRL.out, HN10.out, Nat.mul_one]) (has_of_owns T10e.out.o2) (bytesV_one _) (by unfold maxLen; omega) (by omega) hze ?_; intro af cf wf hof kf1 kf2 kf3 hbf _ _; rw [← bytesV_append] at hof; have HRf := Lib.hid (row22 hof kf1 kf2 kf3 (by simp only [List.length_append, beN_length, of22B_length, HLL.out, HRL.out, HN9.out, HN10.out]; rfl)); have HBf := Lib.hid (HBe.out.trans hbf); have hzf := Nat.le_trans hzA HBf.out.size; have XFf := Lib.hid ((HBf.out.block _ (by omega)).trans X2.out); have qf := fun o => cell_of_heap XFf.out o; have lf := (Array.getElem?_eq_some_iff.1 XFf.out).1; clear hof kf1 kf2 kf3 hbf))
  go_loopw [8, 58] (fun v i wr => ∃ j : Nat, j ≤ nd ∧ i = .int .i64 (j : Nat) ∧ BRow (w.heap.size + 1) ([0, 0, 0, 1] ++ [0, 0, 0, 0] ++ beN 4 20 ++ beN 4 (20 + N9) ++ beN 4 (20 + N9 + N10) ++ of22B 4 1 lb ++ of22B 4 1 rb ++ valsG 4 (ds.take j)) v wr ∧ Below (w.heap.size + 1) A wr) (fun _ i _ => nd - (Go.RowKit.intOf i).toNat)
  case atStart => exact ⟨0, Nat.zero_le _, rfl, by rw [List.take_zero]; simpa only [valsG, List.flatMap_nil, List.append_nil] using HRf.out, HBf.out⟩
  case round =>
    obtain ⟨j, hj, rfl, hr, hb⟩ := hrel
    rename World => wr
    have HR := Lib.hid hr
    have HB := Lib.hid hb
    have hzr := Nat.le_trans hzA hb.size
    clear hr hb
    by_cases hlt : j < nd
    · obtain ⟨x, hx⟩ : ∃ x, ds[j]? = some x := ⟨_, List.getElem?_eq_getElem (by rw [HDL.out]; exact hlt)⟩
      have hxb := HDB.out x (List.mem_of_getElem? hx)
      obtain ⟨g, o, rfl, hg, hci⟩ := (HHD.out.below (HBA.out.trans (HB.out.mono (by omega)))).get (by rw [List.length_map, HDL.out]; omega)
      have c0 := hci j (.int .i16 x) (by simp [hx])
      have HO := Lib.hid (valsG_snoc 4 ds j x hx)
      have wu := u16_of16 hxb
      have wm := m16_lt x
      have wm2 : IntKind.i64.wrap ((m16 x : Nat) : Int) = ((m16 x : Nat) : Int) := IntWalk.i64_in _ (by omega)
      have wi : IntKind.i32.wrap x = x := by rw [IntKind.wrap_i32]; omega
      have wv := u32_of16 hxb
      have wn := m32g_lt hxb
      have wn2 : IntKind.i64.wrap ((m32g x : Nat) : Int) = ((m32g x : Nat) : Int) := IntWalk.i64_in _ (by omega)
      have HV := Lib.hid (show valG 4 x = m32g x from rfl)
      have hSl : (valsG 4 (ds.take j)).length ≤ 4 * 1000 := by rw [valsG_length]; exact Nat.mul_le_mul (by decide) (by rw [List.length_take]; omega)
      have hN1 : (of22B 4 1 lb).length ≤ 5000 := by rw [of22B_length, HLL.out, ← HN9.out]; exact hN9'
      have hN2 : (of22B 4 1 rb).length ≤ 5000 := by rw [of22B_length, HRL.out, ← HN10.out]; exact hN10'
      have hYl : ([0, 0, 0, 1] ++ [0, 0, 0, 0] ++ beN 4 20 ++ beN 4 (20 + N9) ++ beN 4 (20 + N9 + N10) ++ of22B 4 1 lb ++ of22B 4 1 rb ++ valsG 4 (ds.take j) : List UInt8).length ≤ 1000000000 := by
        simp only [List.length_append, beN_length, List.length_replicate, List.length_cons, List.length_nil]
        omega
      have HP := Lib.hid (put_row (w.heap.size + 1) (m32g x) 4 ((m32g x : Nat) : Int) 4 rfl rfl _ _ wr HR.out hzr (by omega) hYl (by decide))
      generalize m16 x = xm at *
      generalize m32g x = xn at *
      clear hx hci hYl
      go_wp2_with (go_at_call 70; (with_reducible refine HP.out.mono ?_); rintro e wk ⟨sk, rfl, hrk, hbk, _⟩; have HRk := Lib.hid hrk; have HBk := Lib.hid (HB.out.trans hbk); clear hrk hbk)
      go_roundw
      case rel => exact ⟨j + 1, hlt, by go_num, by rw [HO.out, HV.out, ← List.append_assoc]; exact HRk.out, HBk.out⟩
      case measure => simp [Go.RowKit.intOf]; omega
    · obtain rfl : nd = j := by omega
      have hr := HR.out
      rw [List.take_of_length_le (by rw [HDL.out]; exact Nat.le_refl _)] at hr
      have HR' := Lib.hid (hr.mono (Nat.le_succ _))
      clear hr HR
      go_wp2_with fail
      go_ret
      exact ⟨_, rfl, by
        have := HR'.out
        rw [HN9.out, HN10.out, ← HLL.out, ← HRL.out] at this
        exact this, HBA.out.trans (HB.out.mono (Nat.le_succ _))⟩
theorem wgrid_any (k : Nat) (hk : k ≤ 2) (z : Int) (hz : z = (k : Nat)) (al : Option Addr) (nl cl : Nat) (lb : List UInt8) (ar : Option Addr) (nr cr : Nat) (rb : List UInt8) (ad : Option Addr) (nd cd : Nat) (ds : List Int) (w : World) (hl : Has w al (bytesV lb)) (hll : lb.length = nl) (hln : nl ≤ 1000) (hr : Has w ar (bytesV rb)) (hrl : rb.length = nr) (hrn : nr ≤ 1000) (hd : Has w ad (ds.map (Value.int .i16))) (hdl : ds.length = nd) (hdn : nd ≤ 1000) (hdb : ∀ x ∈ ds, -32768 ≤ x ∧ x ≤ 32767) :
    Calls Try.prog 25 #[.agg #[.slice al nl cl, .slice ar nr cr, .slice ad nd cd], .int .i64 z] w fun e w' => ∃ v, e = .returned v ∧ BRow w.heap.size (gridB k lb rb ds) v w' ∧ Below w.heap.size w w' := by
  subst hz
  have : k = 0 ∨ k = 1 ∨ k = 2 := by omega
  rcases this with rfl | rfl | rfl
  · exact wgrid0_any al nl cl lb ar nr cr rb ad nd cd ds w hl hll hln hr hrl hrn hd hdl hdn hdb
  · exact wgrid1_any al nl cl lb ar nr cr rb ad nd cd ds w hl hll hln hr hrl hrn hd hdl hdn hdb
  · exact wgrid2_any al nl cl lb ar nr cr rb ad nd cd ds w hl hll hln hr hrl hrn hd hdl hdn hdb
theorem gridB_length (k : Nat) (l r : List UInt8) (ds : List Int) : (gridB k l r ds).length = (hdG k).length + 12 + (6 + szG k * l.length) + (6 + szG k * r.length) + szG k * ds.length := by
  simp only [gridB, List.length_append, beN_length, of22B_length, valsG_length]
  try omega
theorem hdG_length (k : Nat) : (hdG k).length = if k = 0 then 4 else 8 := by
  unfold hdG
  split
  · rfl
  · split <;> rfl
theorem gridB_le (k : Nat) (l r : List UInt8) (ds : List Int) (h1 : l.length ≤ 20) (h2 : r.length ≤ 20) (h3 : ds.length ≤ 600) : (gridB k l r ds).length ≤ 4000 := by
  have hs : szG k = 2 ∨ szG k = 4 := by unfold szG; split <;> simp
  rw [gridB_length, hdG_length]
  rcases hs with e | e <;> rw [e] <;> split <;> omega
end Go.Proofs.Ytaladlaffglkeaa
end
section

/- A lookup's parts, its numbers, and the document's greatest number of a lookup. Conditions: a lookup that was read; sizes. -/
namespace Go.Proofs.Ytaladlaffglkeaa
open Go.RowKit Go.Lib

theorem lkR_refS {bs : List UInt8} {glyphs size : Nat} {rs : List RP} (h : LkOk bs glyphs size rs) (hg : glyphs ≤ 65535) (hS : size = 2 ∨ size = 4) (id : Int) : refG bs rs id = lkR bs rs id := by
  have := (refG_tab bs rs h.ok (fun r hr => (h.rows.each hg hS).2 r hr) id rs.length (Nat.le_refl _)).1
  rw [List.take_length] at this
  exact this.symm
end Go.Proofs.Ytaladlaffglkeaa
end
section

/- What a lookup that layer 22's law writes gives, bytes behind it or none. No condition but numbers of a byte. -/
namespace Go.Proofs.Ytaladlaffglkeaa
open Go.RowKit Go.Lib

theorem numBS (S x : Nat) (hS : S = 2 ∨ S = 4) (hx : x ≤ 65535) (Z : List UInt8) : num (beN S x ++ Z) 0 S = x := by
  rcases hS with rfl | rfl
  · exact numB2 _ _ hx
  · exact numB4 _ _ (by omega)
theorem off22_num (S T : Nat) (hS : S = 2 ∨ S = 4) (hT : T ≤ 2) (Z : List UInt8) : ∀ (l : List UInt8) (k : Nat), k < l.length → num (off22B S T l ++ Z) (S * k) S = (l.getD k 0).toNat * T
  | [], k, h => by simp at h
  | x :: l, 0, _ => by
    have e : off22B S T (x :: l) ++ Z = beN S (x.toNat * T) ++ (off22B S T l ++ Z) := by simp [off22B]
    rw [e, Nat.mul_zero, numBS S _ hS (by have := x.toNat_lt; have := Nat.mul_le_mul (show x.toNat ≤ 255 by omega) hT; omega)]
    rfl
  | x :: l, k + 1, h => by
    have e : off22B S T (x :: l) ++ Z = beN S (x.toNat * T) ++ (off22B S T l ++ Z) := by simp [off22B]
    rw [e, numR _ _ (S * (k + 1)) (S * k) S (by rw [beN_length, Nat.mul_add]; omega), off22_num S T hS hT Z l k (by simpa using h)]
    simp
theorem of22_split (S T : Nat) (l Z : List UInt8) : of22B S T l ++ Z = beN 2 8 ++ (beN 2 0 ++ (beN 2 l.length ++ (off22B S T l ++ Z))) := by simp [of22B]
theorem of22_nums (S T : Nat) (l Z : List UInt8) (hl : l.length ≤ 65535) : num (of22B S T l ++ Z) 0 2 = 8 ∧ num (of22B S T l ++ Z) 2 2 = 0 ∧ num (of22B S T l ++ Z) 4 2 = l.length := by
  rw [of22_split]
  refine ⟨numB2 8 _ (by decide), ?_, ?_⟩
  · rw [numR (beN 2 8) _ 2 0 2 (by rw [beN_length]), numB2 0 _ (by decide)]
  · rw [numR (beN 2 8) _ 4 2 2 (by rw [beN_length]), numR (beN 2 0) _ 2 0 2 (by rw [beN_length]), numB2 l.length _ hl]
theorem of22_val (S T : Nat) (hS : S = 2 ∨ S = 4) (hT : T ≤ 2) (l Z : List UInt8) (k : Nat) (hk : k < l.length) : num (of22B S T l ++ Z) (6 + S * k) S = (l.getD k 0).toNat * T := by
  rw [of22_split, numR (beN 2 8) _ (6 + S * k) (4 + S * k) S (by rw [beN_length]; omega), numR (beN 2 0) _ (4 + S * k) (2 + S * k) S (by rw [beN_length]; omega), numR (beN 2 l.length) _ (2 + S * k) (S * k) S (by rw [beN_length]), off22_num S T hS hT Z l k hk]
theorem of22_ok (S T : Nat) (hS : S = 2 ∨ S = 4) (l Z : List UInt8) (hl : l.length ≤ 65535) (glyphs : Nat) : LkOk (of22B S T l ++ Z) glyphs S (rowsT 0 l.length 6 S) := by
  obtain ⟨h1, h2, h3⟩ := of22_nums S T l Z hl
  have hlen : (of22B S T l ++ Z).length = 6 + S * l.length + Z.length := by rw [List.length_append, of22B_length]
  have := LkRows.eight (bs := of22B S T l ++ Z) (glyphs := glyphs) (size := S) (by rw [hlen]; omega) h1 (by rw [h2, h3]; omega)
  rw [h2, h3] at this
  refine ⟨this, ?_⟩
  by_cases h0 : l.length = 0
  · unfold rowsT
    rw [if_pos h0]
    intro i r hr
    simp at hr
  · exact (ok_rowsT _ _ _ _ _ (by rw [hlen]; omega)).2 (by rw [hlen]; rcases hS with rfl | rfl <;> omega)
def give22 (T : Nat) (l : List UInt8) (id : Int) : Nat × Bool := if 0 ≤ id ∧ id < (l.length : Int) then ((l.getD id.toNat 0).toNat * T, true) else (0, false)
theorem lk_give22 (S T : Nat) (hS : S = 2 ∨ S = 4) (hT : T ≤ 2) (l Z : List UInt8) (hl : l.length ≤ 65535) (id : Int) : lkR (of22B S T l ++ Z) (rowsT 0 l.length 6 S) id = give22 T l id := by
  rw [← lkR_refS (of22_ok S T hS l Z hl 40) (by decide) hS]
  unfold refG rowsT give22
  by_cases h0 : l.length = 0
  · rw [if_pos h0, if_neg (by omega)]
    rfl
  · rw [if_neg h0]
    by_cases h : 0 ≤ id ∧ id < (l.length : Int)
    · rw [if_pos h]
      have hin : inR id ⟨0, 0 + l.length - 1, 6, S, true⟩ = true := by
        unfold inR
        simp
        omega
      rw [List.find?_cons_of_pos hin]
      obtain ⟨k, rfl⟩ : ∃ k : Nat, id = k := ⟨id.toNat, by omega⟩
      have := of22_val S T hS hT l Z k (by omega)
      show (num (of22B S T l ++ Z) (6 + (if true = true then S else 0) * ((k : Int) - ((0 : Nat) : Int)).toNat) S, true) = ((l.getD (k : Int).toNat 0).toNat * T, true)
      rw [if_pos rfl, show ((k : Int) - ((0 : Nat) : Int)).toNat = k by omega, Int.toNat_natCast, this]
    · rw [if_neg h]
      have hin : ¬ inR id ⟨0, 0 + l.length - 1, 6, S, true⟩ = true := by
        unfold inR
        simp
        omega
      rw [List.find?_cons_of_neg hin]
      rfl
def maxB (l : List UInt8) : Nat := l.foldl (fun m x => max m x.toNat) 0
theorem maxB_from : ∀ (l : List UInt8) (m : Nat), m ≤ l.foldl (fun m x => max m x.toNat) m ∧ (∀ x ∈ l, x.toNat ≤ l.foldl (fun m x => max m x.toNat) m) ∧ (l.foldl (fun m x => max m x.toNat) m = m ∨ ∃ x ∈ l, x.toNat = l.foldl (fun m x => max m x.toNat) m)
  | [], m => ⟨Nat.le_refl _, fun x hx => (by simp at hx), .inl rfl⟩
  | y :: l, m => by
    obtain ⟨h1, h2, h3⟩ := maxB_from l (max m y.toNat)
    simp only [List.foldl_cons]
    refine ⟨by omega, fun x hx => ?_, ?_⟩
    · rcases List.mem_cons.1 hx with rfl | hx
      · omega
      · exact h2 x hx
    · rcases h3 with h3 | ⟨x, hx, h3⟩
      · by_cases hm : y.toNat ≤ m
        · left; rw [h3]; omega
        · right; exact ⟨y, by simp, by rw [h3]; omega⟩
      · exact .inr ⟨x, by simp [hx], h3⟩
theorem maxB_snoc (l : List UInt8) (j : Nat) (x : UInt8) (h : l[j]? = some x) : maxB (l.take (j + 1)) = max (maxB (l.take j)) x.toNat := by
  unfold maxB
  rw [List.take_add_one, h]
  simp
theorem most22 (S T : Nat) (hS : S = 2 ∨ S = 4) (hT : T ≤ 2) (l Z : List UInt8) (hl : l.length ≤ 65535) : mostR (of22B S T l ++ Z) (rowsT 0 l.length 6 S) = maxB l * T := by
  have hf := (of22_ok S T hS l Z hl 40).fit (by decide) hS
  obtain ⟨_, h2, h3⟩ := maxB_from l 0
  symm
  refine most_is hf (fun id _ => ?_) ?_
  · rw [lk_give22 S T hS hT l Z hl id]
    unfold give22
    split
    · rename_i h
      have hk : id.toNat < l.length := by omega
      have := h2 _ (List.getElem_mem hk)
      rw [List.getD_eq_getElem?_getD, List.getElem?_eq_getElem hk]
      exact Nat.mul_le_mul_right _ this
    · exact Nat.zero_le _
  · rcases h3 with h3 | ⟨x, hx, h3⟩
    · left; show maxB l * T = 0; rw [maxB, h3, Nat.zero_mul]
    · right
      obtain ⟨k, hk, rfl⟩ := List.getElem_of_mem hx
      refine ⟨(k : Nat), ?_⟩
      rw [lk_give22 S T hS hT l Z hl]
      unfold give22
      rw [if_pos (by omega), Int.toNat_natCast, List.getD_eq_getElem?_getD, List.getElem?_eq_getElem hk]
      show (l[k]).toNat * T = maxB l * T
      rw [h3]; rfl
end Go.Proofs.Ytaladlaffglkeaa
end
section

/- What a grid that layer 22's law writes is: there, if and only if there are distances enough, and each distance is the one at the sum. Conditions: few glyphs and distances. -/
namespace Go.Proofs.Ytaladlaffglkeaa
open Go.RowKit Go.Lib

theorem numB4g (z : Nat) (Z : List UInt8) (h : z < 4294967296) : num (beN 4 z ++ Z) 0 4 = z := by
  simp [beN, num4, UInt8.toNat_ofNat']
  omega
theorem grid_cut (hd L R V : List UInt8) (p a b c : Nat) (hp : hd.length = p) (ha : a = p + 12) (hb : b = a + L.length) (hc : c = b + R.length) (h16 : c ≤ 65535) :
    num (hd ++ beN 4 a ++ beN 4 b ++ beN 4 c ++ L ++ R ++ V) p 4 = a ∧ num (hd ++ beN 4 a ++ beN 4 b ++ beN 4 c ++ L ++ R ++ V) (p + 4) 4 = b ∧ num (hd ++ beN 4 a ++ beN 4 b ++ beN 4 c ++ L ++ R ++ V) (p + 8) 4 = c ∧
    (hd ++ beN 4 a ++ beN 4 b ++ beN 4 c ++ L ++ R ++ V).drop a = L ++ (R ++ V) ∧ (hd ++ beN 4 a ++ beN 4 b ++ beN 4 c ++ L ++ R ++ V).drop b = R ++ V ∧ (hd ++ beN 4 a ++ beN 4 b ++ beN 4 c ++ L ++ R ++ V).drop c = V ∧ (hd ++ beN 4 a ++ beN 4 b ++ beN 4 c ++ L ++ R ++ V).length = c + V.length := by
  refine ⟨?_, ?_, ?_, ?_, ?_, ?_, ?_⟩
  · simp only [List.append_assoc]
    rw [numR hd _ p 0 4 (by omega)]
    exact numB4 _ _ (by omega)
  · simp only [List.append_assoc]
    rw [numR hd _ (p + 4) 4 4 (by omega), numR (beN 4 a) _ 4 0 4 (by rw [beN_length])]
    exact numB4 _ _ (by omega)
  · simp only [List.append_assoc]
    rw [numR hd _ (p + 8) 8 4 (by omega), numR (beN 4 a) _ 8 4 4 (by rw [beN_length]), numR (beN 4 b) _ 4 0 4 (by rw [beN_length])]
    exact numB4 _ _ (by omega)
  · rw [List.append_assoc, List.append_assoc]
    exact List.drop_left' (by simp only [List.length_append, beN_length]; omega)
  · rw [List.append_assoc _ R V]
    exact List.drop_left' (by simp only [List.length_append, beN_length]; omega)
  · exact List.drop_left' (by simp only [List.length_append, beN_length]; omega)
  · simp only [List.length_append, beN_length]; omega
theorem valsG_num (S : Nat) (hS : S = 2 ∨ S = 4) : ∀ (ds : List Int) (q : Nat), (∀ x ∈ ds, -32768 ≤ x ∧ x ≤ 32767) → q < ds.length → disV (valsG S ds) S (S * q) = ds.getD q 0
  | [], q, _, h => by simp at h
  | x :: ds, 0, hx, _ => by
    have h1 := hx x (by simp)
    have e : valsG S (x :: ds) = beN S (valG S x) ++ valsG S ds := rfl
    rw [e, Nat.mul_zero]
    rcases hS with rfl | rfl
    · show s16 (num (beN 2 (m16 x) ++ _) 0 2) = x
      rw [numB2 _ _ (by have := m16_lt x; omega), s16_m16 h1]
    · show s32 (num (beN 4 (m32g x) ++ _) 0 4) = x
      have hn : num (beN 4 (m32g x) ++ valsG 4 ds) 0 4 = m32g x := numB4g _ _ (m32g_lt h1)
      rw [hn]
      unfold s32 m32g
      split <;> split <;> omega
  | x :: ds, q + 1, hx, h => by
    have e : valsG S (x :: ds) = beN S (valG S x) ++ valsG S ds := rfl
    have ih := valsG_num S hS ds q (fun y hy => hx y (by simp [hy])) (by simpa using h)
    have e2 : disV (valsG S (x :: ds)) S (S * (q + 1)) = disV (valsG S ds) S (S * q) := by
      unfold disV
      rw [e, numR _ _ (S * (q + 1)) (S * q) 4 (by rw [beN_length, Nat.mul_add]; omega), numR _ _ (S * (q + 1)) (S * q) 2 (by rw [beN_length, Nat.mul_add]; omega)]
    rw [e2, ih]
    simp
theorem give_mul (T : Nat) (l : List UInt8) (x : Int) : (give22 T l x).1 = (give22 1 l x).1 * T := by
  unfold give22
  split
  · simp
  · simp
theorem give_le (l : List UInt8) (x : Int) : (give22 1 l x).1 ≤ maxB l := by
  unfold give22
  split
  · rename_i h
    have hk : x.toNat < l.length := by omega
    have := (maxB_from l 0).2.1 _ (List.getElem_mem hk)
    rw [List.getD_eq_getElem?_getD, List.getElem?_eq_getElem hk]
    simpa [maxB] using this
  · exact Nat.zero_le _
theorem gridOk_iff (hd l r : List UInt8) (ds : List Int) (p S T U a b c : Nat) (hp : hd.length = p) (ha : a = p + 12) (hb : b = a + (6 + S * l.length)) (hc : c = b + (6 + S * r.length)) (h16 : c ≤ 65535) (hS : S = 2 ∨ S = 4) (hT : T ≤ 2) (hUT : U * T = S) (hl : l.length ≤ 65535) (hr : r.length ≤ 65535) (r1 r2 : List RP) :
    GridOk (hd ++ beN 4 a ++ beN 4 b ++ beN 4 c ++ of22B S T l ++ of22B S T r ++ valsG S ds) p S U 300 r1 r2 ↔ (r1 = rowsT 0 l.length 6 S ∧ r2 = rowsT 0 r.length 6 S ∧ maxB l + maxB r < ds.length) := by
  obtain ⟨e1, e2, e3, e4, e5, e6, e7⟩ := grid_cut hd (of22B S T l) (of22B S T r) (valsG S ds) p a b c hp ha (by rw [of22B_length]; exact hb) (by rw [of22B_length]; exact hc) h16
  generalize hd ++ beN 4 a ++ beN 4 b ++ beN 4 c ++ of22B S T l ++ of22B S T r ++ valsG S ds = G at *
  have o1 := of22_ok S T hS l (of22B S T r ++ valsG S ds) hl 300
  have o2 := of22_ok S T hS r (valsG S ds) hr 300
  have m1 := most22 S T hS hT l (of22B S T r ++ valsG S ds) hl
  have m2 := most22 S T hS hT r (valsG S ds) hr
  have hfar : (U * (maxB l * T + maxB r * T) + S ≤ G.length - c) ↔ maxB l + maxB r < ds.length := by
    rw [e7, valsG_length, show c + S * ds.length - c = S * ds.length by omega, ← Nat.add_mul, Nat.mul_comm (maxB l + maxB r) T, ← Nat.mul_assoc, hUT]
    rcases hS with rfl | rfl <;> omega
  constructor
  · intro h
    have k1 := h.lk1
    have k2 := h.lk2
    have kf := h.far
    rw [e1, e4] at k1 kf
    rw [e2, e5] at k2 kf
    rw [e3] at kf
    obtain rfl := k1.det o1
    obtain rfl := k2.det o2
    rw [m1, m2] at kf
    exact ⟨rfl, rfl, hfar.1 kf⟩
  · rintro ⟨rfl, rfl, h⟩
    refine ⟨by omega, by rw [e1]; omega, by rw [e2]; omega, by rw [e3]; omega, by rw [e1, e4]; exact o1, by rw [e2, e5]; exact o2, ?_⟩
    rw [e1, e2, e3, e4, e5, m1, m2]
    exact hfar.2 h
theorem distG_is (hd l r : List UInt8) (ds : List Int) (p S T U a b c : Nat) (hp : hd.length = p) (ha : a = p + 12) (hb : b = a + (6 + S * l.length)) (hc : c = b + (6 + S * r.length)) (h16 : c ≤ 65535) (hS : S = 2 ∨ S = 4) (hT : T ≤ 2) (hUT : U * T = S) (hl : l.length ≤ 65535) (hr : r.length ≤ 65535) (hds : ∀ x ∈ ds, -32768 ≤ x ∧ x ≤ 32767) (hm : maxB l + maxB r < ds.length) (x y : Int) :
    distG (hd ++ beN 4 a ++ beN 4 b ++ beN 4 c ++ of22B S T l ++ of22B S T r ++ valsG S ds) p S U (rowsT 0 l.length 6 S) (rowsT 0 r.length 6 S) x y = ds.getD ((give22 1 l x).1 + (give22 1 r y).1) 0 := by
  obtain ⟨e1, e2, e3, e4, e5, e6, e7⟩ := grid_cut hd (of22B S T l) (of22B S T r) (valsG S ds) p a b c hp ha (by rw [of22B_length]; exact hb) (by rw [of22B_length]; exact hc) h16
  generalize hd ++ beN 4 a ++ beN 4 b ++ beN 4 c ++ of22B S T l ++ of22B S T r ++ valsG S ds = G at *
  unfold distG
  rw [e1, e2, e3, e4, e5, e6, lk_give22 S T hS hT l _ hl x, lk_give22 S T hS hT r _ hr y, give_mul T l x, give_mul T r y, ← Nat.add_mul, Nat.mul_comm _ T, ← Nat.mul_assoc, hUT]
  exact valsG_num S hS ds _ hds (by have := give_le l x; have := give_le r y; omega)
/-- A written grid of the form k is a subtable of the kind, if and only if there are distances enough. -/
theorem gridB_ok (k : Nat) (hk : k ≤ 2) (kind : Int) (hkind : kind = if k = 0 then 2 else 6) (l r : List UInt8) (ds : List Int) (hl : l.length ≤ 20) (hr : r.length ≤ 20) (r1 r2 : List RP) :
    PrOk (gridB k l r ds) kind 300 r1 r2 ↔ (r1 = rowsT 0 l.length 6 (szG k) ∧ r2 = rowsT 0 r.length 6 (szG k) ∧ maxB l + maxB r < ds.length) := by
  have : k = 0 ∨ k = 1 ∨ k = 2 := by omega
  rcases this with rfl | rfl | rfl
  · have hg := gridOk_iff (hdG 0) l r ds 4 2 2 1 16 (16 + (6 + 2 * l.length)) (16 + (6 + 2 * l.length) + (6 + 2 * r.length)) rfl rfl rfl rfl (by omega) (.inl rfl) (by decide) rfl (by omega) (by omega) r1 r2
    subst hkind
    constructor
    · rintro (⟨h, _⟩ | ⟨_, h⟩ | ⟨h, _⟩)
      · simp at h
      · exact hg.1 h
      · simp at h
    · intro h
      exact .inr (.inl ⟨rfl, hg.2 h⟩)
  · have hsz : sizI (gridB 1 l r ds) = 2 := by
      unfold sizI
      rw [show num (gridB 1 l r ds) 0 4 = 0 from by
        simp only [gridB, List.append_assoc]
        rw [numL _ _ _ _ (by decide)]
        rfl]
      rfl
    have hg := gridOk_iff (hdG 1) l r ds 8 2 1 2 20 (20 + (6 + 2 * l.length)) (20 + (6 + 2 * l.length) + (6 + 2 * r.length)) rfl rfl rfl rfl (by omega) (.inl rfl) (by decide) rfl (by omega) (by omega) r1 r2
    subst hkind
    constructor
    · rintro (⟨h, _⟩ | ⟨h, _⟩ | ⟨_, h⟩)
      · simp at h
      · simp at h
      · rw [hsz] at h; exact hg.1 h
    · intro h
      exact .inr (.inr ⟨rfl, by rw [hsz]; exact hg.2 h⟩)
  · have hsz : sizI (gridB 2 l r ds) = 4 := by
      unfold sizI
      rw [show num (gridB 2 l r ds) 0 4 = 1 from by
        simp only [gridB, List.append_assoc]
        rw [numL _ _ _ _ (by decide)]
        rfl]
      rfl
    have hg := gridOk_iff (hdG 2) l r ds 8 4 1 4 20 (20 + (6 + 4 * l.length)) (20 + (6 + 4 * l.length) + (6 + 4 * r.length)) rfl rfl rfl rfl (by omega) (.inr rfl) (by decide) rfl (by omega) (by omega) r1 r2
    subst hkind
    constructor
    · rintro (⟨h, _⟩ | ⟨h, _⟩ | ⟨_, h⟩)
      · simp at h
      · simp at h
      · rw [hsz] at h; exact hg.1 h
    · intro h
      exact .inr (.inr ⟨rfl, by rw [hsz]; exact hg.2 h⟩)
theorem gridB_dist (k : Nat) (hk : k ≤ 2) (kind : Int) (hkind : kind = if k = 0 then 2 else 6) (l r : List UInt8) (ds : List Int) (hl : l.length ≤ 20) (hr : r.length ≤ 20) (hds : ∀ x ∈ ds, -32768 ≤ x ∧ x ≤ 32767) (hm : maxB l + maxB r < ds.length) (x y : Int) :
    distF (gridB k l r ds) kind (rowsT 0 l.length 6 (szG k)) (rowsT 0 r.length 6 (szG k)) x y = ds.getD ((give22 1 l x).1 + (give22 1 r y).1) 0 := by
  have : k = 0 ∨ k = 1 ∨ k = 2 := by omega
  rcases this with rfl | rfl | rfl
  · rw [if_pos rfl] at hkind
    rw [hkind]
    unfold distF
    rw [if_neg (by decide), if_pos rfl]
    exact distG_is (hdG 0) l r ds 4 2 2 1 16 (16 + (6 + 2 * l.length)) (16 + (6 + 2 * l.length) + (6 + 2 * r.length)) rfl rfl rfl rfl (by omega) (.inl rfl) (by decide) rfl (by omega) (by omega) hds hm x y
  · have hsz : sizI (gridB 1 l r ds) = 2 := by
      unfold sizI
      rw [show num (gridB 1 l r ds) 0 4 = 0 from by
        simp only [gridB, List.append_assoc]
        rw [numL _ _ _ _ (by decide)]
        rfl]
      rfl
    rw [if_neg (by decide)] at hkind
    rw [hkind]
    unfold distF
    rw [if_neg (by decide), if_neg (by decide), hsz]
    exact distG_is (hdG 1) l r ds 8 2 1 2 20 (20 + (6 + 2 * l.length)) (20 + (6 + 2 * l.length) + (6 + 2 * r.length)) rfl rfl rfl rfl (by omega) (.inl rfl) (by decide) rfl (by omega) (by omega) hds hm x y
  · have hsz : sizI (gridB 2 l r ds) = 4 := by
      unfold sizI
      rw [show num (gridB 2 l r ds) 0 4 = 1 from by
        simp only [gridB, List.append_assoc]
        rw [numL _ _ _ _ (by decide)]
        rfl]
      rfl
    rw [if_neg (by decide)] at hkind
    rw [hkind]
    unfold distF
    rw [if_neg (by decide), if_neg (by decide), hsz]
    exact distG_is (hdG 2) l r ds 8 4 1 4 20 (20 + (6 + 4 * l.length)) (20 + (6 + 4 * l.length) + (6 + 4 * r.length)) rfl rfl rfl rfl (by omega) (.inr rfl) (by decide) rfl (by omega) (by omega) hds hm x y
end Go.Proofs.Ytaladlaffglkeaa
end
section

/- What an argument that is a grid's plan of layer 22 is. No condition. -/
namespace Go.Proofs.Ytaladlaffglkeaa
section
open Go.ChangeShapes Go.WideShapes Go.ChangeAt Go.RowKit
variable {H : Type} {enc : TypeId × Value → H}
theorem wf_i16g {n : Int} (h : (Lit.int .i16 n).wf = true) : -32768 ≤ n ∧ n ≤ 32767 := by
  simp [Lit.wf, IntKind.min, IntKind.max, IntKind.signed, IntKind.bits] at h
  omega
theorem open_i16C {P : Program} {W : World} {t e : TypeId} {f : Nat} {v : Value} {y : DataW H × List MemPlace} (ht : P.underlying t = some (.slice e)) (he : P.underlying e = some (.int .i16))
    (h : DataW.trod enc P W 0 (fun _ => true) true f t [v] = some y) : ∃ (a : Option Addr) (c : Nat) (ss : List Int), v = .slice a ss.length c ∧ Has W a (ss.map (Value.int .i16)) ∧ ∀ x ∈ ss, -32768 ≤ x ∧ x ≤ 32767 := by
  obtain ⟨a, n, c, us, rfl, hl, _, _, _, hh, hx⟩ := open_rows_cell ht h
  have key : ∀ us : List (List Value), (∀ x ∈ us, ∃ m y, DataW.trod enc P W 0 (fun _ => true) true m e x = some y) → ∃ ss : List Int, ss.length = us.length ∧ us.flatten = ss.map (Value.int .i16) ∧ ∀ x ∈ ss, -32768 ≤ x ∧ x ≤ 32767 := by
    intro us
    induction us with
    | nil => exact fun _ => ⟨[], rfl, rfl, fun x hx => by cases hx⟩
    | cons x us ih =>
      intro h
      obtain ⟨ss, h1, h2, h3⟩ := ih (fun y hy => h y (by simp [hy]))
      obtain ⟨m, y, hy⟩ := h x (by simp)
      obtain ⟨z, rfl, _, hw⟩ := DataW.trod_int he hy
      refine ⟨z :: ss, by simp [h1], by simp [h2], fun x hx => ?_⟩
      rcases List.mem_cons.1 hx with rfl | hx
      · exact wf_i16g hw
      · exact h3 x hx
  obtain ⟨ss, h1, h2, h3⟩ := key us (fun x hx' => (hx x hx').2)
  exact ⟨a, c, ss, by rw [h1, hl], h2 ▸ hh, h3⟩
set_option maxRecDepth 100000 in
theorem open_grid {W : World} {base : Nat} {v : Value} {d : DataW H} {pl : List MemPlace} (hv : Value.okWide Try.prog W .any base 60 v) (h : DataW.Trod enc Try.prog W 0 (fun _ => true) true 60 v d pl) :
    ∃ (al : Option Addr) (cl : Nat) (lb : List UInt8) (ar : Option Addr) (cr : Nat) (rb : List UInt8) (ad : Option Addr) (cd : Nat) (ds : List Int), v = .agg #[.slice al lb.length cl, .slice ar rb.length cr, .slice ad ds.length cd] ∧ Has W al (bytesV lb) ∧ Has W ar (bytesV rb) ∧ Has W ad (ds.map (Value.int .i16)) ∧ ∀ x ∈ ds, -32768 ≤ x ∧ x ≤ 32767 := by
  obtain ⟨v0, v1, v2, y0, y1, y2, n, rfl, _, _, h0, h1, h2⟩ := Go.Joins.open_agg3 Try.underlying60 (by kernel_rfl) (by kernel_rfl) hv h
  obtain ⟨al, cl, lb, rfl, hl⟩ := open_bytesC Try.underlying22 Try.underlying5 h0
  obtain ⟨ar, cr, rb, rfl, hr⟩ := open_bytesC Try.underlying22 Try.underlying5 h1
  obtain ⟨ad, cd, ds, rfl, hd, hb⟩ := open_i16C Try.underlying58 Try.underlying66 h2
  exact ⟨al, cl, lb, ar, cr, rb, ad, cd, ds, rfl, hl, hr, hd, hb⟩
end
end Go.Proofs.Ytaladlaffglkeaa
end
section

/- A List of pairs by its bytes: whether they rise, and each one's distance; layer 22's speaks. No condition. -/
namespace Go.Proofs.Ytaladlaffglkeaa
open Go.RowKit Go.Lib

def RisesP (l : List PrT) : Prop := ∀ (i : Nat) (p q : PrT), l[i]? = some p → l[i + 1]? = some q → p.1 * 65536 + p.2.1 < q.1 * 65536 + q.2.1
theorem listB_ok (l : List PrT) (hn : l.length ≤ 65535) (hok : ∀ p ∈ l, PrT.ok p) : PListOk (listB l) ↔ RisesP l := by
  constructor
  · intro h i p q hp hq
    have := h.rise i (by rw [listB_n l hn]; exact (List.getElem?_eq_some_iff.1 hq).1)
    rw [(listB_at hp (hok p (List.mem_of_getElem? hp))).2.2.2, (listB_at hq (hok q (List.mem_of_getElem? hq))).2.2.2] at this
    exact this
  · intro h
    refine ⟨by rw [listB_n l hn, listB_length]; exact Nat.le_refl _, fun i hi => ?_⟩
    rw [listB_n l hn] at hi
    have hp := List.getElem?_eq_getElem (show i < l.length by omega)
    have hq := List.getElem?_eq_getElem hi
    rw [(listB_at hp (hok _ (List.mem_of_getElem? hp))).2.2.2, (listB_at hq (hok _ (List.mem_of_getElem? hq))).2.2.2]
    exact h i _ _ hp hq
theorem distP_in {l : List PrT} (hn : l.length ≤ 65535) (hok : ∀ p ∈ l, PrT.ok p) (h : PListOk (listB l)) {i : Nat} {p : PrT} (hp : l[i]? = some p) : distP (listB l) (p.1 : Nat) (p.2.1 : Nat) = p.2.2 := by
  have hpo := hok p (List.mem_of_getElem? hp)
  obtain ⟨_, _, e3, e4⟩ := listB_at hp hpo
  rw [distP_at h (by rw [listB_n l hn]; exact (List.getElem?_eq_some_iff.1 hp).1) hpo.1 hpo.2.1 e4, e3, s16_m16 hpo.2.2]
theorem distP_out {l : List PrT} (hn : l.length ≤ 65535) (hok : ∀ p ∈ l, PrT.ok p) {x y : Int} (h : ∀ p ∈ l, ¬ ((p.1 : Int) = x ∧ (p.2.1 : Int) = y)) : distP (listB l) x y = 0 := by
  refine distP_no fun i hi ⟨h1, h2⟩ => ?_
  rw [listB_n l hn] at hi
  have hp := List.getElem?_eq_getElem hi
  obtain ⟨e1, e2, _⟩ := listB_at hp (hok _ (List.mem_of_getElem? hp))
  rw [e1] at h1
  rw [e2] at h2
  exact h _ (List.mem_of_getElem? hp) ⟨h1, h2⟩
/-- Read of a List that was written. -/
theorem pread_list (l : List PrT) (hn : l.length ≤ 1000) (hok : ∀ p ∈ l, PrT.ok p) (a : Option Addr) (n c : Nat) (glyphs : Nat) (zg : Int) (hzg : zg = (glyphs : Nat)) (hg1 : 1 ≤ glyphs) (hg2 : glyphs ≤ 65535) (w : World) (h : Has w a (bytesV (listB l))) (hl : 16 + 6 * l.length = n) :
    Calls Try.prog 24 #[.int .i64 0, .slice a n c, .int .i64 zg] w fun e w' => ((RisesP l ∧ ∃ g, e = .returned (.tuple #[.pointer (some ⟨g, 0, none⟩), .int .i64 0]) ∧ PrIs (spR w.heap.size) w.heap.size g (listB l) 0 [] [] w') ∨ (¬ RisesP l ∧ e = .returned (.tuple #[.pointer none, .int .i64 2]))) ∧ Below w.heap.size w w' := by
  subst hzg
  refine (pread_any 0 a n c (listB l) (glyphs : Nat) w h (by rw [listB_length]; exact hl) (by omega)).mono ?_
  rintro e w' ⟨(⟨hb, _⟩ | ⟨_, hno, he⟩ | ⟨_, r1, r2, g, hok', he, hp⟩), hb⟩
  · unfold badP at hb; omega
  · exact ⟨.inr ⟨fun hr => hno [] [] (.inl ⟨rfl, (listB_ok l (by omega) hok).2 hr, rfl, rfl⟩), he⟩, hb⟩
  · rcases hok' with ⟨_, hlo, rfl, rfl⟩ | ⟨h2, _⟩ | ⟨h6, _⟩
    · exact ⟨.inl ⟨(listB_ok l (by omega) hok).1 hlo, g, he, hp⟩, hb⟩
    · omega
    · omega
theorem pget_list {l : List PrT} (hn : l.length ≤ 1000) (hok : ∀ p ∈ l, PrT.ok p) (hr : RisesP l) (M : Nat → Nat → Prop) (B gx : Nat) (x y : Int) (w : World) (h : PrIs M B gx (listB l) 0 [] [] w) (hx : -9223372036854775808 ≤ x ∧ x ≤ 9223372036854775807) (hy : -9223372036854775808 ≤ y ∧ y ≤ 9223372036854775807) :
    Calls Try.prog 26 #[.pointer (some ⟨gx, 0, none⟩), .int .i64 x, .int .i64 y] w fun e w' => e = .returned (.int .i64 (distP (listB l) x y)) ∧ Below w.heap.size w w' :=
  pget_any M B gx (listB l) 0 9 [] [] x y w h (.inl ⟨rfl, (listB_ok l (by omega) hok).2 hr, rfl, rfl⟩) (by decide) hx hy
theorem eqPtn (w : World) (p : Addr) : (binOp .neq 61 (.pointer (some p)) (.pointer none)).run Try.prog w = .ok (.bool true) w := by kernel_rfl
theorem eqPte (w : World) (p : Addr) : (binOp .eql 61 (.pointer (some p)) (.pointer none)).run Try.prog w = .ok (.bool false) w := by kernel_rfl
theorem eqPnn (w : World) : (binOp .neq 61 (.pointer none) (.pointer none)).run Try.prog w = .ok (.bool false) w := by kernel_rfl
theorem eqPne (w : World) : (binOp .eql 61 (.pointer none) (.pointer none)).run Try.prog w = .ok (.bool true) w := by kernel_rfl
def onePr : List PrT := [(5, 6, -20)]
theorem onePr_ok : ∀ p ∈ onePr, PrT.ok p := by
  intro p hp
  simp [onePr] at hp
  subst hp
  simp [PrT.ok]
theorem onePr_rises : RisesP onePr := fun i p q _ hq => by
  have := (List.getElem?_eq_some_iff.1 hq).1
  simp [onePr] at this
set_option maxRecDepth 100000 in
set_option maxHeartbeats 3200000 in
theorem speaks22_any (w : World) : Calls Try.prog 23 #[] w fun e w' => e = .returned (.bool true) ∧ Below w.heap.size w w' := by
  have hAC := allocC
  have hAF := allocF
  have h1 := eqPtn
  have HW := Lib.hid (fun W (a : Option Addr) (hW : Has W a (prV onePr)) => write22_any a 1 1 onePr W hW rfl (by decide) onePr_ok)
  have d1 : distP (listB onePr) 5 6 = -20 := distP_in (l := onePr) (by decide) onePr_ok ((listB_ok onePr (by decide) onePr_ok).2 onePr_rises) (i := 0) (p := (5, 6, -20)) rfl
  have d2 : distP (listB onePr) 6 5 = 0 := distP_out (by decide) onePr_ok (by intro p hp; simp [onePr] at hp; subst hp; simp)
  have HG := Lib.hid (fun (x y : Int) M B g W hx hy h => pget_list (l := onePr) (by decide) onePr_ok onePr_rises M B g x y W h hx hy)
  have HA := Lib.hid (show Has (w.alloc (Obj.cells #[.int .u16 5, .int .u16 6, .int .i16 (-20)] 160)) (some ⟨w.heap.size, 0, none⟩) (prV onePr) from has_alloc w _ _)
  go_enter Try.func23, Try.ntmps23
  go_wp2_with (first
    | (go_at_call 71; (with_reducible refine (HW.out _ _ HA.out).mono ?_); rintro e w1 ⟨a1, c1, rfl, ho1, _, _, _, hb1⟩; have HO1 := Lib.hid (has_of_owns ho1); have HB1 := Lib.hid (show Below w.heap.size w w1 from by exact blw); clear ho1 hb1)
    | (go_at_call 24; (with_reducible refine (pread_list onePr (by decide) onePr_ok a1 22 c1 9 9 rfl (by decide) (by decide) w1 HO1.out rfl).mono ?_); rintro e w2 ⟨(⟨_, g, rfl, hp⟩ | ⟨hno, _⟩), hb2⟩; rotate_left; (exact absurd onePr_rises hno); have HP2 := Lib.hid hp; have HB2 := Lib.hid (HB1.out.trans (hb2.mono HB1.out.size)); clear hp hb2)
    | (go_at_call 26; (with_reducible refine (HG.out 5 6 _ _ g w2 (by decide) (by decide) HP2.out).mono ?_); rintro e w3 ⟨rfl, hb3⟩; rw [d1]; have HP3 := Lib.hid (HP2.out.below hb3); have HB3 := Lib.hid (HB2.out.trans (hb3.mono HB2.out.size)); clear hb3)
    | (go_at_call 26; (with_reducible refine (HG.out 6 5 _ _ g w3 (by decide) (by decide) HP3.out).mono ?_); rintro e w4 ⟨rfl, hb4⟩; rw [d2]; have HB4 := Lib.hid (HB3.out.trans (hb4.mono HB3.out.size)); clear hb4))
  go_ret
  exact ⟨by first | rfl | simp, HB4.out⟩
end Go.Proofs.Ytaladlaffglkeaa
end
