/- Joined from: PrForm PrGrid PrGOpen PrMost PrRefM PrSpk. -/
import Derived.Test.YtbicnkopmamnpaaJ01
import Derived.Test.YtbicnkopmamnpaaJ16
import Derived.Test.YtbicnkopmamnpaaJ13
import Derived.Test.YtbicnkopmamnpaaJ12
import Derived.Test.YtbicnkopmamnpaaJ14
section

/- A lookup of glyphs from 0 on as the law of layer 22 writes it: swashlaw22.of. Conditions: bytes in memory; sizes. -/
namespace Go.Proofs.Ytbicnkopmamnpaa
open Go.RowKit Go.Lib

theorem BRow.mono {B B' : Nat} {xs : List UInt8} {v : Value} {w : World} (h : BRow B xs v w) (hb : B' ≤ B) : BRow B' xs v w := by
  obtain ⟨a', c', h1, h2, h3⟩ := h
  exact ⟨a', c', h1, owns_mono h2 hb, h3⟩
def off22B (S T : Nat) (l : List UInt8) : List UInt8 := l.flatMap fun x => beN S (x.toNat * T)
def of22B (S T : Nat) (l : List UInt8) : List UInt8 := beN 2 8 ++ beN 2 0 ++ beN 2 l.length ++ off22B S T l
theorem off22B_length (S T : Nat) (l : List UInt8) : (off22B S T l).length = S * l.length := by
  induction l with
  | nil => simp [off22B]
  | cons x l ih => simp only [off22B, List.flatMap_cons, List.length_append, beN_length, List.length_cons] at *; rw [ih, Nat.mul_add]; omega
theorem of22B_length (S T : Nat) (l : List UInt8) : (of22B S T l).length = 6 + S * l.length := by
  simp only [of22B, List.length_append, beN_length, off22B_length]
theorem off22B_snoc (S T : Nat) (l : List UInt8) (q : Nat) (x : UInt8) (h : l[q]? = some x) : off22B S T (l.take (q + 1)) = off22B S T (l.take q) ++ beN S (x.toNat * T) := by
  unfold off22B
  rw [List.take_add_one, List.flatMap_append, h]
  simp
set_option maxRecDepth 100000 in
set_option maxHeartbeats 3200000 in
theorem of22_any (S T : Nat) (hS : S ≤ 4) (hT : T ≤ 2) (a : Option Addr) (n c : Nat) (l : List UInt8) (zs zt : Int) (hzs : zs = (S : Nat)) (hzt : zt = (T : Nat)) (w : World) (h : Has w a (bytesV l)) (hl : l.length = n) (hn : n ≤ 1000) :
    Calls Try.prog 105 #[.slice a n c, .int .i64 zs, .int .i64 zt] w fun e w' => ∃ v, e = .returned v ∧ BRow w.heap.size (of22B S T l) v w' ∧ Below w.heap.size w w' := by
  subst hzs hzt
  have hAC := allocC
  have hAF := allocF
  have HH := Lib.hid h
  have HL := Lib.hid hl
  clear h hl
  have HA0 := Lib.hid (put_row w.heap.size 8 2 8 2 rfl rfl [] (.slice none 0 0) w (BRow.nil _ _) (Nat.le_refl _) (by omega) (by decide) (by decide))
  go_enter Try.func105, Try.ntmps105
  go_wp2_with (first
    | (go_at_call 67; (with_reducible refine HA0.out.mono ?_); rintro e w1 ⟨s1, rfl, hr1, hb1, _⟩; have HB1 := Lib.hid hb1; have hz1 := hb1.size; have HP1 := Lib.hid (put_row w.heap.size 0 2 0 2 rfl rfl _ s1 w1 hr1 hz1 (by omega) (by simp [beN_length]) (by decide)); clear hr1 hb1)
    | (go_at_call 67; (with_reducible refine HP1.out.mono ?_); rintro e w2 ⟨s2, rfl, hr2, hb2, _⟩; have HB2 := Lib.hid (HB1.out.trans hb2); have hz2 := HB2.out.size; have HP2 := Lib.hid (put_row w.heap.size n 2 (n : Nat) 2 rfl rfl _ s2 w2 hr2 hz2 (by omega) (by simp [beN_length]) (by decide)); clear hr2 hb2)
    | (go_at_call 67; (with_reducible refine HP2.out.mono ?_); rintro e w3 ⟨s3, rfl, hr3, hb3, _⟩; have HB3 := Lib.hid (HB2.out.trans hb3); have hz3 := HB3.out.size; have HR3 := Lib.hid hr3; clear hr3 hb3))
  go_loopw [7, 17] (fun v i wr => ∃ j : Nat, j ≤ n ∧ i = .int .i64 (j : Nat) ∧ BRow w.heap.size (beN 2 8 ++ beN 2 0 ++ beN 2 n ++ off22B S T (l.take j)) v wr ∧ Below w.heap.size w wr) (fun _ i _ => n - (Go.RowKit.intOf i).toNat)
  case atStart => exact ⟨0, Nat.zero_le _, rfl, by rw [List.take_zero]; simpa [off22B] using HR3.out, HB3.out⟩
  case round =>
    obtain ⟨j, hj, rfl, hr, hb⟩ := hrel
    rename World => wr
    have HR := Lib.hid hr
    have HB := Lib.hid hb
    have hzr := hb.size
    clear hr hb
    by_cases hlt : j < n
    · obtain ⟨x, hx⟩ : ∃ x, l[j]? = some x := ⟨_, List.getElem?_eq_getElem (by rw [HL.out]; exact hlt)⟩
      obtain ⟨g, o, rfl, hg, hci⟩ := (HH.out.below HB.out).get (by rw [bytesV_length, HL.out]; omega)
      have c0 := hci j (.int .u8 (x.toNat : Nat)) (by simp [bytesV, hx])
      have HO := Lib.hid (off22B_snoc S T l j x hx)
      have bx := x.toNat_lt
      generalize x.toNat = y at *
      have hyT : y * T ≤ 510 := Nat.le_trans (Nat.mul_le_mul (by omega : y ≤ 255) hT) (by decide)
      have e1 : (y : Int) * (T : Int) = ((y * T : Nat) : Int) := by simp
      have w1 : IntKind.i64.wrap ((y : Int) * (T : Int)) = ((y * T : Nat) : Int) := by rw [e1]; exact IntWalk.i64_in _ (by omega)
      have hSl : S * (l.take j).length ≤ 4 * 1000 := Nat.mul_le_mul hS (by rw [List.length_take]; omega)
      have HP := Lib.hid (put_row w.heap.size (y * T) S ((y * T : Nat) : Int) (S : Nat) rfl rfl _ _ wr HR.out hzr (by omega) (by simp only [List.length_append, beN_length, off22B_length]; omega) (by omega))
      generalize y * T = yt at *
      clear hx hci e1
      go_wp2_with (go_at_call 67; (with_reducible refine HP.out.mono ?_); rintro e w5 ⟨s5, rfl, hr5, hb5, _⟩; have HR5 := Lib.hid hr5; have HB5 := Lib.hid (HB.out.trans hb5); clear hr5 hb5)
      go_roundw
      case rel => exact ⟨j + 1, hlt, by go_num, by rw [HO.out, ← List.append_assoc]; exact HR5.out, HB5.out⟩
      case measure => simp [Go.RowKit.intOf]; omega
    · obtain rfl : n = j := by omega
      have hr := HR.out
      rw [List.take_of_length_le (by rw [HL.out]; exact Nat.le_refl _)] at hr
      have HR' := Lib.hid hr
      clear hr HR
      go_wp2_with fail
      go_ret
      exact ⟨_, rfl, by rw [of22B, HL.out]; exact HR'.out, HB.out⟩
end Go.Proofs.Ytbicnkopmamnpaa
end
section

/- The bytes of a grid of distances as the law of layer 22 writes them: swashlaw22.WriteGrid. Written by tools/mkprgrid.py. Conditions: a plan in memory; sizes. -/
namespace Go.Proofs.Ytbicnkopmamnpaa
open Go.RowKit Go.Lib

def m32g (x : Int) : Nat := if x < 0 then (x + 4294967296).toNat else x.toNat
def valG (S : Nat) (x : Int) : Nat := if S = 4 then m32g x else m16 x
def valsG (S : Nat) (ds : List Int) : List UInt8 := ds.flatMap fun x => beN S (valG S x)
def hdG (k : Nat) : List UInt8 := if k = 0 then List.replicate 4 0 else if k = 1 then List.replicate 8 0 else [0, 0, 0, 1] ++ [0, 0, 0, 0]
def atQ (k : Nat) : Nat := if k = 0 then 16 else 20
def szG (k : Nat) : Nat := if k = 2 then 4 else 2
def tmG (k : Nat) : Nat := if k = 0 then 2 else 1
def gridB (k : Nat) (l r : List UInt8) (ds : List Int) : List UInt8 :=
  hdG k ++ beN 4 (atQ k) ++ beN 4 (atQ k + (6 + szG k * l.length)) ++ beN 4 (atQ k + (6 + szG k * l.length) + (6 + szG k * r.length)) ++ of22B (szG k) (tmG k) l ++ of22B (szG k) (tmG k) r ++ valsG (szG k) ds
theorem valsG_length (S : Nat) (ds : List Int) : (valsG S ds).length = S * ds.length := by
  induction ds with
  | nil => simp [valsG]
  | cons x l ih => simp only [valsG, List.flatMap_cons, List.length_append, beN_length, List.length_cons] at *; rw [ih, Nat.mul_add]; omega
theorem valsG_snoc (S : Nat) (ds : List Int) (q : Nat) (x : Int) (h : ds[q]? = some x) : valsG S (ds.take (q + 1)) = valsG S (ds.take q) ++ beN S (valG S x) := by
  unfold valsG
  rw [List.take_add_one, List.flatMap_append, h]
  simp
theorem u32_of16 {x : Int} (h : -32768 ≤ x ∧ x ≤ 32767) : IntKind.u32.wrap x = (m32g x : Nat) := by
  rw [IntKind.wrap_u32]
  unfold m32g
  split <;> omega
theorem m32g_lt {x : Int} (h : -32768 ≤ x ∧ x ≤ 32767) : m32g x < 4294967296 := by unfold m32g; split <;> omega
theorem made_zeroG (n : Nat) : (madeCells (Value.int .u8 0).cells (n * 1)).toList = bytesV (List.replicate n 0) := by
  show (madeCells #[Value.int .u8 0] (n * 1)).toList = _
  rw [toList_madeCells_one, Nat.mul_one]
  simp [bytesV]
theorem row22 {B n : Nat} {xs : List UInt8} {a : Option Addr} {c : Nat} {w : World} (h : w.ownsRow B 5 1 (.slice a n c) n (bytesV xs)) (h1 : n ≤ c) (h2 : c ≤ maxLen) (h3 : a = none → c = 0) (hn : xs.length = n) : BRow B xs (.slice a n c) w := by
  subst hn
  exact ⟨a, c, rfl, h, h1, h2, h3⟩
theorem of22_row (S T : Nat) (hS : S ≤ 4) (hT : T ≤ 2) (a : Option Addr) (n c : Nat) (l : List UInt8) (zs zt : Int) (hzs : zs = (S : Nat)) (hzt : zt = (T : Nat)) (w : World) (h : Has w a (bytesV l)) (hl : l.length = n) (hn : n ≤ 1000) (N : Nat) (hN : N = 6 + S * n) :
    Calls Try.prog 105 #[.slice a n c, .int .i64 zs, .int .i64 zt] w fun e w' => ∃ g' c', e = .returned (.slice (some ⟨g', 0, none⟩) N c') ∧ w'.ownsRow w.heap.size 5 1 (.slice (some ⟨g', 0, none⟩) N c') N (bytesV (of22B S T l)) ∧ Below w.heap.size w w' := by
  refine (of22_any S T hS hT a n c l zs zt hzs hzt w h hl hn).mono ?_
  rintro e w' ⟨v, rfl, ⟨a', c', rfl, ho, _, _, _⟩, hb⟩
  rw [of22B_length, hl, ← hN] at ho ⊢
  obtain ⟨g', c'', he⟩ : ∃ g' c'', Value.slice a' N c' = .slice (some ⟨g', 0, none⟩) N c'' := by
    rcases ho.2 with ⟨_, h0⟩ | ⟨g, cap, cur, hv, _⟩
    · omega
    · exact ⟨g, cap, hv⟩
  rw [he] at ho ⊢
  exact ⟨g', c'', rfl, ho, hb⟩
set_option maxRecDepth 100000 in
set_option maxHeartbeats 12800000 in
theorem wgrid0_any (al : Option Addr) (nl cl : Nat) (lb : List UInt8) (ar : Option Addr) (nr cr : Nat) (rb : List UInt8) (ad : Option Addr) (nd cd : Nat) (ds : List Int) (w : World) (hl : Has w al (bytesV lb)) (hll : lb.length = nl) (hln : nl ≤ 1000) (hr : Has w ar (bytesV rb)) (hrl : rb.length = nr) (hrn : nr ≤ 1000) (hd : Has w ad (ds.map (Value.int .i16))) (hdl : ds.length = nd) (hdn : nd ≤ 1000) (hdb : ∀ x ∈ ds, -32768 ≤ x ∧ x ≤ 32767) :
    Calls Try.prog 58 #[.agg #[.slice al nl cl, .slice ar nr cr, .slice ad nd cd], .int .i64 0] w fun e w' => ∃ v, e = .returned v ∧ BRow w.heap.size (gridB 0 lb rb ds) v w' ∧ Below w.heap.size w w' := by
  have hAC := allocC
  have hAF := allocF
  have HHL := Lib.hid hl
  have HLL := Lib.hid hll
  have HHR := Lib.hid hr
  have HRL := Lib.hid hrl
  have HHD := Lib.hid hd
  have HDL := Lib.hid hdl
  have HDB := Lib.hid hdb
  clear hl hll hr hrl hd hdl hdb
  obtain ⟨A, hA⟩ : ∃ A, A = w.alloc (Obj.cells #[.slice al nl cl, .slice ar nr cr, .slice ad nd cd] 119) := ⟨_, rfl⟩
  have hbA : Below w.heap.size w A := by rw [hA]; exact balloc (brefl w) _
  have x2 : A.heap[w.heap.size]? = some (.cells #[.slice al nl cl, .slice ar nr cr, .slice ad nd cd] 119 (0, 0)) := by rw [hA]; exact (heap_push _ _ _).trans (if_pos rfl)
  have hzA : w.heap.size + 1 ≤ A.heap.size := (Array.getElem?_eq_some_iff.1 x2).1
  have eA : A.heap.size = w.heap.size + 1 := by rw [hA]; simp
  have X2 := Lib.hid x2
  have HBA := Lib.hid hbA
  clear x2 hbA
  go_enter Try.func58, Try.ntmps58
  go_wp2_with (at_make; rw [← hA]; refine wpMake _ rfl _ _ 22 rfl (w.heap.size + 1) 5 (.int .u8 0) 1 1 Try.underlying22 u8_info 4 rfl rfl (by decide) (by decide) (by exact hzA) ?_; intro w1 hown1 hb1; have O1 := Lib.hid (owns_eq hown1 (made_zeroG 4)); rw [eA] at O1; have HB1 := Lib.hid (hb1.mono hzA); clear hown1 hb1)
  clear hA eA
  have hz1 := Nat.le_trans hzA HB1.out.size
  have Y2 := Lib.hid ((HB1.out.block _ (by omega)).trans X2.out)
  have q2 := fun o => cell_of_heap Y2.out o
  have l2 := (Array.getElem?_eq_some_iff.1 Y2.out).1
  obtain ⟨N9, hN9⟩ : ∃ N9, N9 = 6 + 2 * nl := ⟨_, rfl⟩
  obtain ⟨N10, hN10⟩ : ∃ N10, N10 = 6 + 2 * nr := ⟨_, rfl⟩
  have HO1 := Lib.hid (fun (X : World) (hX : Below w1.heap.size w1 X) => of22_row 2 2 (by decide) (by decide) al nl cl lb 2 2 rfl rfl X (HHL.out.below (HBA.out.trans ((HB1.out.trans (hX.mono hz1)).mono (by omega)))) HLL.out hln N9 hN9)
  have HO2 := Lib.hid (fun (X : World) (hX : Below w1.heap.size w1 X) => of22_row 2 2 (by decide) (by decide) ar nr cr rb 2 2 rfl rfl X (HHR.out.below (HBA.out.trans ((HB1.out.trans (hX.mono hz1)).mono (by omega)))) HRL.out hrn N10 hN10)
  have HN9 := Lib.hid hN9
  have HN10 := Lib.hid hN10
  have hN9' : N9 ≤ 5000 := by omega
  have hN10' : N10 ≤ 5000 := by omega
  have hN9p : 0 < N9 := by omega
  have hN10p : 0 < N10 := by omega
  clear hN9 hN10
  go_wp2_with fail
  refine wp_region_tree (.step 0 (.step 1 (.step 2 (.step 3 (.step 5 (.step 6 (.step 7 (.step 8 (.step 4 (.step 9 (.step 10 (.step 11 .nil)))))))))))) (by kernel_rfl) (by kernel_rfl) (by kernel_rfl) (by kernel_rfl) (by intro _ _ d_ _ _ h_; cases d_ <;> first | exact h_ | (dsimp +zetaDelta only at h_ ⊢; exact h_)) (fun w' => ∃ p : Wld w1 [], w' = p.val) (wld_start _ _) ?_
  have hG_ := @wldC w1
  (refine tree_quiet gtA (by rfl) (by rfl) (fun K_ hK_ => ?_); go_big_quiet_op; refine hK_ _ ?_; clear hK_ K_)
  (refine tree_quiet gtA (by rfl) (by rfl) (fun K_ hK_ => ?_); go_big_quiet_op; refine hK_ _ ?_; clear hK_ K_)
  (refine tree_quiet gtA (by rfl) (by rfl) (fun K_ hK_ => ?_); go_big_quiet_op; refine hK_ _ ?_; clear hK_ K_)
  (refine tree_quiet gtA (by rfl) (by rfl) (fun K_ hK_ => ?_); go_big_quiet_op; refine hK_ _ ?_; clear hK_ K_)
  (refine tree_quiet gtA (by rfl) (by rfl) (fun K_ hK_ => ?_); go_big_quiet_op; refine hK_ _ ?_; clear hK_ K_)
  (refine tree_quiet gtA (by rfl) (by rfl) (fun K_ hK_ => ?_); go_big_quiet_op; refine hK_ _ ?_; clear hK_ K_)
  (refine tree_quiet gtA (by rfl) (by rfl) (fun K_ hK_ => ?_); go_big_quiet_op; refine hK_ _ ?_; clear hK_ K_)
  (refine tree_quiet gtA (by rfl) (by rfl) (fun K_ hK_ => ?_); go_big_quiet_op; refine hK_ _ ?_; clear hK_ K_)
  (refine tree_run gtA (by rfl) (by rfl) (fun K_ hK_ => ?_); have HK_ := Lib.hid hK_; clear hK_; go_wp2_with (first | (go_at_call 105; (with_reducible refine (HO1.out _ (by exact blw)).mono ?_); rintro e w5 ⟨g9, c9, rfl, ho5, hb5⟩; have h5c := bc hb5; have h5f := bf hb5; have h5z := hb5.size; (try simp only [World.size_drew] at h5z)) | (go_at_call 105; (with_reducible refine (HO2.out _ (by exact blw)).mono ?_); rintro e w6 ⟨g10, c10, rfl, ho6, hb6⟩; have h6c := bc hb6; have h6f := bf hb6; have h6z := hb6.size; (try simp only [World.size_drew] at h6z))); refine HK_.out _ _ (wld_ofA) ?_; clear HK_)
  (refine tree_run gtA (by rfl) (by rfl) (fun K_ hK_ => ?_); have HK_ := Lib.hid hK_; clear hK_; go_wp2_with (first | (go_at_call 105; (with_reducible refine (HO1.out _ (by exact blw)).mono ?_); rintro e w5 ⟨g9, c9, rfl, ho5, hb5⟩; have h5c := bc hb5; have h5f := bf hb5; have h5z := hb5.size; (try simp only [World.size_drew] at h5z)) | (go_at_call 105; (with_reducible refine (HO2.out _ (by exact blw)).mono ?_); rintro e w6 ⟨g10, c10, rfl, ho6, hb6⟩; have h6c := bc hb6; have h6f := bf hb6; have h6z := hb6.size; (try simp only [World.size_drew] at h6z))); refine HK_.out _ _ (wld_ofA) ?_; clear HK_)
  (refine tree_quiet gtA (by rfl) (by rfl) (fun K_ hK_ => ?_); go_big_quiet_op; refine hK_ _ ?_; clear hK_ K_)
  (refine tree_quiet gtA (by rfl) (by rfl) (fun K_ hK_ => ?_); go_big_quiet_op; refine hK_ _ ?_; clear hK_ K_)
  refine tree_nil ?_
  clear hG_
  have hb16 : Below w1.heap.size w1 w6 := by exact blw
  have hw15 : w1.heap.size ≤ w5.heap.size := by omega
  have hl9 := (ho5.lt g9 (by rfl))
  have hl10 := (ho6.lt g10 (by rfl))
  have hl8 := fun p (hp : (some ⟨w.heap.size + 1, 0, none⟩) = some p) => owns_lt O1.out p hp
  simp only [World.size_drew] at hl9 hl10
  have T9 := Lib.hid (show Two (w.heap.size + 1) w6 (some ⟨w.heap.size + 1, 0, none⟩) 4 4 (List.replicate 4 0) (some ⟨g9, 0, none⟩) N9 c9 (of22B 2 2 lb) from ⟨owns_below O1.out hb16 (Nat.le_refl _), owns_mono (owns_below ho5 hb6 (Nat.le_refl _)) (by have := (show w1.drew.heap.size = w1.heap.size from by first | rfl | simp); omega), fun p q hp hq => by cases hq; show p.block ≠ g9; have := (hl8 p hp).2; have := (show w1.drew.heap.size = w1.heap.size from by first | rfl | simp); omega⟩)
  have T10 := Lib.hid (show Two (w.heap.size + 1) w6 (some ⟨w.heap.size + 1, 0, none⟩) 4 4 (List.replicate 4 0) (some ⟨g10, 0, none⟩) N10 c10 (of22B 2 2 rb) from ⟨owns_below O1.out hb16 (Nat.le_refl _), owns_mono ho6 (by first | omega | (simp only [World.size_drew]; omega)), fun p q hp hq => by cases hq; show p.block ≠ g10; have := (hl8 p hp).2; have := hl10.1; first | omega | (simp only [World.size_drew] at this; omega)⟩)
  have HB6 := Lib.hid (HB1.out.trans (hb16.mono hz1))
  have hz6 := Nat.le_trans hzA HB6.out.size
  have wa : IntKind.i64.wrap (16 + (N9 : Int)) = 16 + (N9 : Int) := IntWalk.i64_in _ (by omega)
  have wb : IntKind.i64.wrap (16 + (N9 : Int) + (N10 : Int)) = 16 + (N9 : Int) + (N10 : Int) := IntWalk.i64_in _ (by omega)
  clear ho5 ho6 hb5 hb6 hb16 hl8 hl9 hl10 h5c h5f h6c h6f O1 HO1 HO2 q2 l2
  have HP1 := Lib.hid (put_z (w.heap.size + 1) (some ⟨w.heap.size + 1, 0, none⟩) 4 4 16 4 16 4 rfl rfl _ w6 T9.out.o1 hz6 (by decide) (by decide) (by decide))
  go_wp2_with (first
    | (go_at_call 67; (with_reducible refine HP1.out.mono ?_); rintro e w7 ⟨a7, c7, rfl, ho7, _, _, _, hb7, _, hf7⟩; have T97 := Lib.hid (T9.out.put1 hf7 ho7); have T107 := Lib.hid (T10.out.put1 hf7 ho7); have HB7 := Lib.hid (HB6.out.trans hb7); have hz7 := Nat.le_trans hzA HB7.out.size; have HP2 := Lib.hid (put_z (w.heap.size + 1) a7 (4 + 4) c7 (16 + N9) 4 (16 + (N9 : Int)) 4 (by simp) rfl _ w7 ho7 hz7 (by omega) (by decide) (by decide)); clear hf7 ho7 hb7)
    | (go_at_call 67; (with_reducible refine HP2.out.mono ?_); rintro e w8 ⟨a8, c8, rfl, ho8, _, _, _, hb8, _, hf8⟩; have T98 := Lib.hid (T97.out.put1 hf8 ho8); have T108 := Lib.hid (T107.out.put1 hf8 ho8); have HB8 := Lib.hid (HB7.out.trans hb8); have hz8 := Nat.le_trans hzA HB8.out.size; have HP3 := Lib.hid (put_z (w.heap.size + 1) a8 (4 + 4 + 4) c8 (16 + N9 + N10) 4 (16 + (N9 : Int) + (N10 : Int)) 4 (by simp) rfl _ w8 ho8 hz8 (by omega) (by decide) (by decide)); clear hf8 ho8 hb8)
    | (go_at_call 67; (with_reducible refine HP3.out.mono ?_); rintro e wc ⟨ac, cc, rfl, hoc, _, _, _, hbc, _, hfc⟩; have T9c := Lib.hid (T98.out.put1 hfc hoc); have T10c := Lib.hid (T108.out.put1 hfc hoc); have HBc := Lib.hid (HB8.out.trans hbc); have hzc := Nat.le_trans hzA HBc.out.size; clear hfc hoc hbc)
    | (at_builtin; refine wpAppF rfl _ _ 22 rfl (w.heap.size + 1) 5 (.int .u8 0) 1 1 Try.underlying22 u8_info rfl (by decide) ac (4 + 4 + 4 + 4) cc _ rfl T9c.out.o1 ⟨g9, 0, none⟩ N9 c9 hN9p (bytesV (of22B 2 2 lb)) rfl (by rw [bytesV_length, of22B_length, HLL.out, HN9.out, Nat.mul_one]) (has_of_owns T9c.out.o2) (bytesV_one _) (by unfold maxLen; omega) (by omega) hzc ?_; intro ae ce we hoe _ _ _ hbe hge hfe; rw [← bytesV_append] at hoe; have T10e := Lib.hid (T10c.out.put1 (PutFar.grown hge hfe) hoe); have HBe := Lib.hid (HBc.out.trans hbe); have hze := Nat.le_trans hzA HBe.out.size; clear hoe hbe hge hfe)
    | (at_builtin; refine wpAppF rfl _ _ 22 rfl (w.heap.size + 1) 5 (.int .u8 0) 1 1 Try.underlying22 u8_info rfl (by decide) ae (4 + 4 + 4 + 4 + N9) ce _ rfl T10e.out.o1 ⟨g10, 0, none⟩ N10 c10 hN10p (bytesV (of22B 2 2 rb)) rfl (by rw [bytesV_length, of22B_length, HRL.out, HN10.out, Nat.mul_one]) (has_of_owns T10e.out.o2) (bytesV_one _) (by unfold maxLen; omega) (by omega) hze ?_; intro af cf wf hof kf1 kf2 kf3 hbf _ _; rw [← bytesV_append] at hof; have HRf := Lib.hid (row22 hof kf1 kf2 kf3 (by simp only [List.length_append, beN_length, of22B_length, HLL.out, HRL.out, HN9.out, HN10.out]; rfl)); have HBf := Lib.hid (HBe.out.trans hbf); have hzf := Nat.le_trans hzA HBf.out.size; have XFf := Lib.hid ((HBf.out.block _ (by omega)).trans X2.out); have qf := fun o => cell_of_heap XFf.out o; have lf := (Array.getElem?_eq_some_iff.1 XFf.out).1; clear hof kf1 kf2 kf3 hbf))
  go_loopw [8, 58] (fun v i wr => ∃ j : Nat, j ≤ nd ∧ i = .int .i64 (j : Nat) ∧ BRow (w.heap.size + 1) (List.replicate 4 0 ++ beN 4 16 ++ beN 4 (16 + N9) ++ beN 4 (16 + N9 + N10) ++ of22B 2 2 lb ++ of22B 2 2 rb ++ valsG 2 (ds.take j)) v wr ∧ Below (w.heap.size + 1) A wr) (fun _ i _ => nd - (Go.RowKit.intOf i).toNat)
  case atStart => exact ⟨0, Nat.zero_le _, rfl, by rw [List.take_zero]; simpa only [valsG, List.flatMap_nil, List.append_nil] using HRf.out, HBf.out⟩
  case round =>
    obtain ⟨j, hj, rfl, hr, hb⟩ := hrel
    rename World => wr
    have HR := Lib.hid hr
    have HB := Lib.hid hb
    have hzr := Nat.le_trans hzA hb.size
    clear hr hb
    by_cases hlt : j < nd
    · obtain ⟨x, hx⟩ : ∃ x, ds[j]? = some x := ⟨_, List.getElem?_eq_getElem (by rw [HDL.out]; exact hlt)⟩
      have hxb := HDB.out x (List.mem_of_getElem? hx)
      obtain ⟨g, o, rfl, hg, hci⟩ := (HHD.out.below (HBA.out.trans (HB.out.mono (by omega)))).get (by rw [List.length_map, HDL.out]; omega)
      have c0 := hci j (.int .i16 x) (by simp [hx])
      have HO := Lib.hid (valsG_snoc 2 ds j x hx)
      have wu := u16_of16 hxb
      have wm := m16_lt x
      have wm2 : IntKind.i64.wrap ((m16 x : Nat) : Int) = ((m16 x : Nat) : Int) := IntWalk.i64_in _ (by omega)
      have wi : IntKind.i32.wrap x = x := by rw [IntKind.wrap_i32]; omega
      have wv := u32_of16 hxb
      have wn := m32g_lt hxb
      have wn2 : IntKind.i64.wrap ((m32g x : Nat) : Int) = ((m32g x : Nat) : Int) := IntWalk.i64_in _ (by omega)
      have HV := Lib.hid (show valG 2 x = m16 x from rfl)
      have hSl : (valsG 2 (ds.take j)).length ≤ 4 * 1000 := by rw [valsG_length]; exact Nat.mul_le_mul (by decide) (by rw [List.length_take]; omega)
      have hN1 : (of22B 2 2 lb).length ≤ 5000 := by rw [of22B_length, HLL.out, ← HN9.out]; exact hN9'
      have hN2 : (of22B 2 2 rb).length ≤ 5000 := by rw [of22B_length, HRL.out, ← HN10.out]; exact hN10'
      have hYl : (List.replicate 4 0 ++ beN 4 16 ++ beN 4 (16 + N9) ++ beN 4 (16 + N9 + N10) ++ of22B 2 2 lb ++ of22B 2 2 rb ++ valsG 2 (ds.take j) : List UInt8).length ≤ 1000000000 := by
        simp only [List.length_append, beN_length, List.length_replicate, List.length_cons, List.length_nil]
        omega
      have HP := Lib.hid (put_row (w.heap.size + 1) (m16 x) 2 ((m16 x : Nat) : Int) 2 rfl rfl _ _ wr HR.out hzr (by omega) hYl (by decide))
      generalize m16 x = xm at *
      generalize m32g x = xn at *
      clear hx hci hYl
      go_wp2_with (go_at_call 67; (with_reducible refine HP.out.mono ?_); rintro e wk ⟨sk, rfl, hrk, hbk, _⟩; have HRk := Lib.hid hrk; have HBk := Lib.hid (HB.out.trans hbk); clear hrk hbk)
      go_roundw
      case rel => exact ⟨j + 1, hlt, by go_num, by rw [HO.out, HV.out, ← List.append_assoc]; exact HRk.out, HBk.out⟩
      case measure => simp [Go.RowKit.intOf]; omega
    · obtain rfl : nd = j := by omega
      have hr := HR.out
      rw [List.take_of_length_le (by rw [HDL.out]; exact Nat.le_refl _)] at hr
      have HR' := Lib.hid (hr.mono (Nat.le_succ _))
      clear hr HR
      go_wp2_with fail
      go_ret
      exact ⟨_, rfl, by
        have := HR'.out
        rw [HN9.out, HN10.out, ← HLL.out, ← HRL.out] at this
        exact this, HBA.out.trans (HB.out.mono (Nat.le_succ _))⟩
set_option maxRecDepth 100000 in
set_option maxHeartbeats 12800000 in
theorem wgrid1_any (al : Option Addr) (nl cl : Nat) (lb : List UInt8) (ar : Option Addr) (nr cr : Nat) (rb : List UInt8) (ad : Option Addr) (nd cd : Nat) (ds : List Int) (w : World) (hl : Has w al (bytesV lb)) (hll : lb.length = nl) (hln : nl ≤ 1000) (hr : Has w ar (bytesV rb)) (hrl : rb.length = nr) (hrn : nr ≤ 1000) (hd : Has w ad (ds.map (Value.int .i16))) (hdl : ds.length = nd) (hdn : nd ≤ 1000) (hdb : ∀ x ∈ ds, -32768 ≤ x ∧ x ≤ 32767) :
    Calls Try.prog 58 #[.agg #[.slice al nl cl, .slice ar nr cr, .slice ad nd cd], .int .i64 1] w fun e w' => ∃ v, e = .returned v ∧ BRow w.heap.size (gridB 1 lb rb ds) v w' ∧ Below w.heap.size w w' := by
  have hAC := allocC
  have hAF := allocF
  have HHL := Lib.hid hl
  have HLL := Lib.hid hll
  have HHR := Lib.hid hr
  have HRL := Lib.hid hrl
  have HHD := Lib.hid hd
  have HDL := Lib.hid hdl
  have HDB := Lib.hid hdb
  clear hl hll hr hrl hd hdl hdb
  obtain ⟨A, hA⟩ : ∃ A, A = w.alloc (Obj.cells #[.slice al nl cl, .slice ar nr cr, .slice ad nd cd] 119) := ⟨_, rfl⟩
  have hbA : Below w.heap.size w A := by rw [hA]; exact balloc (brefl w) _
  have x2 : A.heap[w.heap.size]? = some (.cells #[.slice al nl cl, .slice ar nr cr, .slice ad nd cd] 119 (0, 0)) := by rw [hA]; exact (heap_push _ _ _).trans (if_pos rfl)
  have hzA : w.heap.size + 1 ≤ A.heap.size := (Array.getElem?_eq_some_iff.1 x2).1
  have eA : A.heap.size = w.heap.size + 1 := by rw [hA]; simp
  have X2 := Lib.hid x2
  have HBA := Lib.hid hbA
  clear x2 hbA
  go_enter Try.func58, Try.ntmps58
  go_wp2_with (at_make; rw [← hA]; refine wpMake _ rfl _ _ 22 rfl (w.heap.size + 1) 5 (.int .u8 0) 1 1 Try.underlying22 u8_info 8 rfl rfl (by decide) (by decide) (by exact hzA) ?_; intro w1 hown1 hb1; have O1 := Lib.hid (owns_eq hown1 (made_zeroG 8)); rw [eA] at O1; have HB1 := Lib.hid (hb1.mono hzA); clear hown1 hb1)
  clear hA eA
  have hz1 := Nat.le_trans hzA HB1.out.size
  have Y2 := Lib.hid ((HB1.out.block _ (by omega)).trans X2.out)
  have q2 := fun o => cell_of_heap Y2.out o
  have l2 := (Array.getElem?_eq_some_iff.1 Y2.out).1
  obtain ⟨N9, hN9⟩ : ∃ N9, N9 = 6 + 2 * nl := ⟨_, rfl⟩
  obtain ⟨N10, hN10⟩ : ∃ N10, N10 = 6 + 2 * nr := ⟨_, rfl⟩
  have HO1 := Lib.hid (fun (X : World) (hX : Below w1.heap.size w1 X) => of22_row 2 1 (by decide) (by decide) al nl cl lb 2 1 rfl rfl X (HHL.out.below (HBA.out.trans ((HB1.out.trans (hX.mono hz1)).mono (by omega)))) HLL.out hln N9 hN9)
  have HO2 := Lib.hid (fun (X : World) (hX : Below w1.heap.size w1 X) => of22_row 2 1 (by decide) (by decide) ar nr cr rb 2 1 rfl rfl X (HHR.out.below (HBA.out.trans ((HB1.out.trans (hX.mono hz1)).mono (by omega)))) HRL.out hrn N10 hN10)
  have HN9 := Lib.hid hN9
  have HN10 := Lib.hid hN10
  have hN9' : N9 ≤ 5000 := by omega
  have hN10' : N10 ≤ 5000 := by omega
  have hN9p : 0 < N9 := by omega
  have hN10p : 0 < N10 := by omega
  clear hN9 hN10
  go_wp2_with fail
  refine wp_region_tree (.step 0 (.step 1 (.step 2 (.step 3 (.step 5 (.step 6 (.step 7 (.step 8 (.step 4 (.step 9 (.step 10 (.step 11 .nil)))))))))))) (by kernel_rfl) (by kernel_rfl) (by kernel_rfl) (by kernel_rfl) (by intro _ _ d_ _ _ h_; cases d_ <;> first | exact h_ | (dsimp +zetaDelta only at h_ ⊢; exact h_)) (fun w' => ∃ p : Wld w1 [], w' = p.val) (wld_start _ _) ?_
  have hG_ := @wldC w1
  (refine tree_quiet gtA (by rfl) (by rfl) (fun K_ hK_ => ?_); go_big_quiet_op; refine hK_ _ ?_; clear hK_ K_)
  (refine tree_quiet gtA (by rfl) (by rfl) (fun K_ hK_ => ?_); go_big_quiet_op; refine hK_ _ ?_; clear hK_ K_)
  (refine tree_quiet gtA (by rfl) (by rfl) (fun K_ hK_ => ?_); go_big_quiet_op; refine hK_ _ ?_; clear hK_ K_)
  (refine tree_quiet gtA (by rfl) (by rfl) (fun K_ hK_ => ?_); go_big_quiet_op; refine hK_ _ ?_; clear hK_ K_)
  (refine tree_quiet gtA (by rfl) (by rfl) (fun K_ hK_ => ?_); go_big_quiet_op; refine hK_ _ ?_; clear hK_ K_)
  (refine tree_quiet gtA (by rfl) (by rfl) (fun K_ hK_ => ?_); go_big_quiet_op; refine hK_ _ ?_; clear hK_ K_)
  (refine tree_quiet gtA (by rfl) (by rfl) (fun K_ hK_ => ?_); go_big_quiet_op; refine hK_ _ ?_; clear hK_ K_)
  (refine tree_quiet gtA (by rfl) (by rfl) (fun K_ hK_ => ?_); go_big_quiet_op; refine hK_ _ ?_; clear hK_ K_)
  (refine tree_run gtA (by rfl) (by rfl) (fun K_ hK_ => ?_); have HK_ := Lib.hid hK_; clear hK_; go_wp2_with (first | (go_at_call 105; (with_reducible refine (HO1.out _ (by exact blw)).mono ?_); rintro e w5 ⟨g9, c9, rfl, ho5, hb5⟩; have h5c := bc hb5; have h5f := bf hb5; have h5z := hb5.size; (try simp only [World.size_drew] at h5z)) | (go_at_call 105; (with_reducible refine (HO2.out _ (by exact blw)).mono ?_); rintro e w6 ⟨g10, c10, rfl, ho6, hb6⟩; have h6c := bc hb6; have h6f := bf hb6; have h6z := hb6.size; (try simp only [World.size_drew] at h6z))); refine HK_.out _ _ (wld_ofA) ?_; clear HK_)
  (refine tree_run gtA (by rfl) (by rfl) (fun K_ hK_ => ?_); have HK_ := Lib.hid hK_; clear hK_; go_wp2_with (first | (go_at_call 105; (with_reducible refine (HO1.out _ (by exact blw)).mono ?_); rintro e w5 ⟨g9, c9, rfl, ho5, hb5⟩; have h5c := bc hb5; have h5f := bf hb5; have h5z := hb5.size; (try simp only [World.size_drew] at h5z)) | (go_at_call 105; (with_reducible refine (HO2.out _ (by exact blw)).mono ?_); rintro e w6 ⟨g10, c10, rfl, ho6, hb6⟩; have h6c := bc hb6; have h6f := bf hb6; have h6z := hb6.size; (try simp only [World.size_drew] at h6z))); refine HK_.out _ _ (wld_ofA) ?_; clear HK_)
  (refine tree_quiet gtA (by rfl) (by rfl) (fun K_ hK_ => ?_); go_big_quiet_op; refine hK_ _ ?_; clear hK_ K_)
  (refine tree_quiet gtA (by rfl) (by rfl) (fun K_ hK_ => ?_); go_big_quiet_op; refine hK_ _ ?_; clear hK_ K_)
  refine tree_nil ?_
  clear hG_
  have hb16 : Below w1.heap.size w1 w6 := by exact blw
  have hw15 : w1.heap.size ≤ w5.heap.size := by omega
  have hl9 := (ho5.lt g9 (by rfl))
  have hl10 := (ho6.lt g10 (by rfl))
  have hl8 := fun p (hp : (some ⟨w.heap.size + 1, 0, none⟩) = some p) => owns_lt O1.out p hp
  simp only [World.size_drew] at hl9 hl10
  have T9 := Lib.hid (show Two (w.heap.size + 1) w6 (some ⟨w.heap.size + 1, 0, none⟩) 8 8 (List.replicate 8 0) (some ⟨g9, 0, none⟩) N9 c9 (of22B 2 1 lb) from ⟨owns_below O1.out hb16 (Nat.le_refl _), owns_mono (owns_below ho5 hb6 (Nat.le_refl _)) (by have := (show w1.drew.heap.size = w1.heap.size from by first | rfl | simp); omega), fun p q hp hq => by cases hq; show p.block ≠ g9; have := (hl8 p hp).2; have := (show w1.drew.heap.size = w1.heap.size from by first | rfl | simp); omega⟩)
  have T10 := Lib.hid (show Two (w.heap.size + 1) w6 (some ⟨w.heap.size + 1, 0, none⟩) 8 8 (List.replicate 8 0) (some ⟨g10, 0, none⟩) N10 c10 (of22B 2 1 rb) from ⟨owns_below O1.out hb16 (Nat.le_refl _), owns_mono ho6 (by first | omega | (simp only [World.size_drew]; omega)), fun p q hp hq => by cases hq; show p.block ≠ g10; have := (hl8 p hp).2; have := hl10.1; first | omega | (simp only [World.size_drew] at this; omega)⟩)
  have HB6 := Lib.hid (HB1.out.trans (hb16.mono hz1))
  have hz6 := Nat.le_trans hzA HB6.out.size
  have wa : IntKind.i64.wrap (20 + (N9 : Int)) = 20 + (N9 : Int) := IntWalk.i64_in _ (by omega)
  have wb : IntKind.i64.wrap (20 + (N9 : Int) + (N10 : Int)) = 20 + (N9 : Int) + (N10 : Int) := IntWalk.i64_in _ (by omega)
  clear ho5 ho6 hb5 hb6 hb16 hl8 hl9 hl10 h5c h5f h6c h6f O1 HO1 HO2 q2 l2
  have HP1 := Lib.hid (put_z (w.heap.size + 1) (some ⟨w.heap.size + 1, 0, none⟩) 8 8 20 4 20 4 rfl rfl _ w6 T9.out.o1 hz6 (by decide) (by decide) (by decide))
  go_wp2_with (first
    | (go_at_call 67; (with_reducible refine HP1.out.mono ?_); rintro e w7 ⟨a7, c7, rfl, ho7, _, _, _, hb7, _, hf7⟩; have T97 := Lib.hid (T9.out.put1 hf7 ho7); have T107 := Lib.hid (T10.out.put1 hf7 ho7); have HB7 := Lib.hid (HB6.out.trans hb7); have hz7 := Nat.le_trans hzA HB7.out.size; have HP2 := Lib.hid (put_z (w.heap.size + 1) a7 (8 + 4) c7 (20 + N9) 4 (20 + (N9 : Int)) 4 (by simp) rfl _ w7 ho7 hz7 (by omega) (by decide) (by decide)); clear hf7 ho7 hb7)
    | (go_at_call 67; (with_reducible refine HP2.out.mono ?_); rintro e w8 ⟨a8, c8, rfl, ho8, _, _, _, hb8, _, hf8⟩; have T98 := Lib.hid (T97.out.put1 hf8 ho8); have T108 := Lib.hid (T107.out.put1 hf8 ho8); have HB8 := Lib.hid (HB7.out.trans hb8); have hz8 := Nat.le_trans hzA HB8.out.size; have HP3 := Lib.hid (put_z (w.heap.size + 1) a8 (8 + 4 + 4) c8 (20 + N9 + N10) 4 (20 + (N9 : Int) + (N10 : Int)) 4 (by simp) rfl _ w8 ho8 hz8 (by omega) (by decide) (by decide)); clear hf8 ho8 hb8)
    | (go_at_call 67; (with_reducible refine HP3.out.mono ?_); rintro e wc ⟨ac, cc, rfl, hoc, _, _, _, hbc, _, hfc⟩; have T9c := Lib.hid (T98.out.put1 hfc hoc); have T10c := Lib.hid (T108.out.put1 hfc hoc); have HBc := Lib.hid (HB8.out.trans hbc); have hzc := Nat.le_trans hzA HBc.out.size; clear hfc hoc hbc)
    | (at_builtin; refine wpAppF rfl _ _ 22 rfl (w.heap.size + 1) 5 (.int .u8 0) 1 1 Try.underlying22 u8_info rfl (by decide) ac (8 + 4 + 4 + 4) cc _ rfl T9c.out.o1 ⟨g9, 0, none⟩ N9 c9 hN9p (bytesV (of22B 2 1 lb)) rfl (by rw [bytesV_length, of22B_length, HLL.out, HN9.out, Nat.mul_one]) (has_of_owns T9c.out.o2) (bytesV_one _) (by unfold maxLen; omega) (by omega) hzc ?_; intro ae ce we hoe _ _ _ hbe hge hfe; rw [← bytesV_append] at hoe; have T10e := Lib.hid (T10c.out.put1 (PutFar.grown hge hfe) hoe); have HBe := Lib.hid (HBc.out.trans hbe); have hze := Nat.le_trans hzA HBe.out.size; clear hoe hbe hge hfe)
    | (at_builtin; refine wpAppF rfl _ _ 22 rfl (w.heap.size + 1) 5 (.int .u8 0) 1 1 Try.underlying22 u8_info rfl (by decide) ae (8 + 4 + 4 + 4 + N9) ce _ rfl T10e.out.o1 ⟨g10, 0, none⟩ N10 c10 hN10p (bytesV (of22B 2 1 rb)) rfl (by rw [bytesV_length, of22B_length, HRL.out, HN10.out, Nat.mul_one]) (has_of_owns T10e.out.o2) (bytesV_one _) (by unfold maxLen; omega) (by omega) hze ?_; intro af cf wf hof kf1 kf2 kf3 hbf _ _; rw [← bytesV_append] at hof; have HRf := Lib.hid (row22 hof kf1 kf2 kf3 (by simp only [List.length_append, beN_length, of22B_length, HLL.out, HRL.out, HN9.out, HN10.out]; rfl)); have HBf := Lib.hid (HBe.out.trans hbf); have hzf := Nat.le_trans hzA HBf.out.size; have XFf := Lib.hid ((HBf.out.block _ (by omega)).trans X2.out); have qf := fun o => cell_of_heap XFf.out o; have lf := (Array.getElem?_eq_some_iff.1 XFf.out).1; clear hof kf1 kf2 kf3 hbf))
  go_loopw [8, 58] (fun v i wr => ∃ j : Nat, j ≤ nd ∧ i = .int .i64 (j : Nat) ∧ BRow (w.heap.size + 1) (List.replicate 8 0 ++ beN 4 20 ++ beN 4 (20 + N9) ++ beN 4 (20 + N9 + N10) ++ of22B 2 1 lb ++ of22B 2 1 rb ++ valsG 2 (ds.take j)) v wr ∧ Below (w.heap.size + 1) A wr) (fun _ i _ => nd - (Go.RowKit.intOf i).toNat)
  case atStart => exact ⟨0, Nat.zero_le _, rfl, by rw [List.take_zero]; simpa only [valsG, List.flatMap_nil, List.append_nil] using HRf.out, HBf.out⟩
  case round =>
    obtain ⟨j, hj, rfl, hr, hb⟩ := hrel
    rename World => wr
    have HR := Lib.hid hr
    have HB := Lib.hid hb
    have hzr := Nat.le_trans hzA hb.size
    clear hr hb
    by_cases hlt : j < nd
    · obtain ⟨x, hx⟩ : ∃ x, ds[j]? = some x := ⟨_, List.getElem?_eq_getElem (by rw [HDL.out]; exact hlt)⟩
      have hxb := HDB.out x (List.mem_of_getElem? hx)
      obtain ⟨g, o, rfl, hg, hci⟩ := (HHD.out.below (HBA.out.trans (HB.out.mono (by omega)))).get (by rw [List.length_map, HDL.out]; omega)
      have c0 := hci j (.int .i16 x) (by simp [hx])
      have HO := Lib.hid (valsG_snoc 2 ds j x hx)
      have wu := u16_of16 hxb
      have wm := m16_lt x
      have wm2 : IntKind.i64.wrap ((m16 x : Nat) : Int) = ((m16 x : Nat) : Int) := IntWalk.i64_in _ (by omega)
      have wi : IntKind.i32.wrap x = x := by rw [IntKind.wrap_i32]; omega
      have wv := u32_of16 hxb
      have wn := m32g_lt hxb
      have wn2 : IntKind.i64.wrap ((m32g x : Nat) : Int) = ((m32g x : Nat) : Int) := IntWalk.i64_in _ (by omega)
      have HV := Lib.hid (show valG 2 x = m16 x from rfl)
      have hSl : (valsG 2 (ds.take j)).length ≤ 4 * 1000 := by rw [valsG_length]; exact Nat.mul_le_mul (by decide) (by rw [List.length_take]; omega)
      have hN1 : (of22B 2 1 lb).length ≤ 5000 := by rw [of22B_length, HLL.out, ← HN9.out]; exact hN9'
      have hN2 : (of22B 2 1 rb).length ≤ 5000 := by rw [of22B_length, HRL.out, ← HN10.out]; exact hN10'
      have hYl : (List.replicate 8 0 ++ beN 4 20 ++ beN 4 (20 + N9) ++ beN 4 (20 + N9 + N10) ++ of22B 2 1 lb ++ of22B 2 1 rb ++ valsG 2 (ds.take j) : List UInt8).length ≤ 1000000000 := by
        simp only [List.length_append, beN_length, List.length_replicate, List.length_cons, List.length_nil]
        omega
      have HP := Lib.hid (put_row (w.heap.size + 1) (m16 x) 2 ((m16 x : Nat) : Int) 2 rfl rfl _ _ wr HR.out hzr (by omega) hYl (by decide))
      generalize m16 x = xm at *
      generalize m32g x = xn at *
      clear hx hci hYl
      go_wp2_with (go_at_call 67; (with_reducible refine HP.out.mono ?_); rintro e wk ⟨sk, rfl, hrk, hbk, _⟩; have HRk := Lib.hid hrk; have HBk := Lib.hid (HB.out.trans hbk); clear hrk hbk)
      go_roundw
      case rel => exact ⟨j + 1, hlt, by go_num, by rw [HO.out, HV.out, ← List.append_assoc]; exact HRk.out, HBk.out⟩
      case measure => simp [Go.RowKit.intOf]; omega
    · obtain rfl : nd = j := by omega
      have hr := HR.out
      rw [List.take_of_length_le (by rw [HDL.out]; exact Nat.le_refl _)] at hr
      have HR' := Lib.hid (hr.mono (Nat.le_succ _))
      clear hr HR
      go_wp2_with fail
      go_ret
      exact ⟨_, rfl, by
        have := HR'.out
        rw [HN9.out, HN10.out, ← HLL.out, ← HRL.out] at this
        exact this, HBA.out.trans (HB.out.mono (Nat.le_succ _))⟩
set_option maxRecDepth 100000 in
set_option maxHeartbeats 12800000 in
theorem wgrid2_any (al : Option Addr) (nl cl : Nat) (lb : List UInt8) (ar : Option Addr) (nr cr : Nat) (rb : List UInt8) (ad : Option Addr) (nd cd : Nat) (ds : List Int) (w : World) (hl : Has w al (bytesV lb)) (hll : lb.length = nl) (hln : nl ≤ 1000) (hr : Has w ar (bytesV rb)) (hrl : rb.length = nr) (hrn : nr ≤ 1000) (hd : Has w ad (ds.map (Value.int .i16))) (hdl : ds.length = nd) (hdn : nd ≤ 1000) (hdb : ∀ x ∈ ds, -32768 ≤ x ∧ x ≤ 32767) :
    Calls Try.prog 58 #[.agg #[.slice al nl cl, .slice ar nr cr, .slice ad nd cd], .int .i64 2] w fun e w' => ∃ v, e = .returned v ∧ BRow w.heap.size (gridB 2 lb rb ds) v w' ∧ Below w.heap.size w w' := by
  have hAC := allocC
  have hAF := allocF
  have HHL := Lib.hid hl
  have HLL := Lib.hid hll
  have HHR := Lib.hid hr
  have HRL := Lib.hid hrl
  have HHD := Lib.hid hd
  have HDL := Lib.hid hdl
  have HDB := Lib.hid hdb
  clear hl hll hr hrl hd hdl hdb
  obtain ⟨A, hA⟩ : ∃ A, A = w.alloc (Obj.cells #[.slice al nl cl, .slice ar nr cr, .slice ad nd cd] 119) := ⟨_, rfl⟩
  have hbA : Below w.heap.size w A := by rw [hA]; exact balloc (brefl w) _
  have x2 : A.heap[w.heap.size]? = some (.cells #[.slice al nl cl, .slice ar nr cr, .slice ad nd cd] 119 (0, 0)) := by rw [hA]; exact (heap_push _ _ _).trans (if_pos rfl)
  have hzA : w.heap.size + 1 ≤ A.heap.size := (Array.getElem?_eq_some_iff.1 x2).1
  have eA : A.heap.size = w.heap.size + 1 := by rw [hA]; simp
  have X2 := Lib.hid x2
  have HBA := Lib.hid hbA
  clear x2 hbA
  go_enter Try.func58, Try.ntmps58
  have OW := Lib.hid (show ((A.alloc (Obj.cells #[.int .u8 0, .int .u8 0, .int .u8 0, .int .u8 1] 5)).alloc (Obj.cells #[.int .u8 0, .int .u8 0, .int .u8 0, .int .u8 0] 5)).ownsRow (w.heap.size + 1) 5 1 (.slice (some ⟨w.heap.size + 1, 0, none⟩) 4 4) 4 (bytesV [0, 0, 0, 1]) from by
    have := owns_below (owns_mono (World.ownsRow_lit (e := 5) (size := 1) A #[.int .u8 0, .int .u8 0, .int .u8 0, .int .u8 1] 4 (Nat.le_refl _) (by decide) rfl) hzA) (balloc (brefl _) (Obj.cells #[.int .u8 0, .int .u8 0, .int .u8 0, .int .u8 0] 5)) (Nat.le_refl _)
    rw [eA] at this
    exact this)
  have HS := Lib.hid (show Has ((A.alloc (Obj.cells #[.int .u8 0, .int .u8 0, .int .u8 0, .int .u8 1] 5)).alloc (Obj.cells #[.int .u8 0, .int .u8 0, .int .u8 0, .int .u8 0] 5)) (some ⟨w.heap.size + 1 + 1, 0, none⟩) (bytesV [0, 0, 0, 0]) from by
    have := has_alloc (A.alloc (Obj.cells #[.int .u8 0, .int .u8 0, .int .u8 0, .int .u8 1] 5)) #[.int .u8 0, .int .u8 0, .int .u8 0, .int .u8 0] 5
    rw [World.size_alloc, eA] at this
    exact this)
  have HBZ := Lib.hid (show Below (w.heap.size + 1) A ((A.alloc (Obj.cells #[.int .u8 0, .int .u8 0, .int .u8 0, .int .u8 1] 5)).alloc (Obj.cells #[.int .u8 0, .int .u8 0, .int .u8 0, .int .u8 0] 5)) from (balloc (balloc (brefl A) _) _).mono hzA)
  go_wp2_with (at_builtin; rw [← hA]; refine wpAppF rfl _ _ 22 rfl (w.heap.size + 1) 5 (.int .u8 0) 1 1 Try.underlying22 u8_info rfl (by decide) (some ⟨w.heap.size + 1, 0, none⟩) 4 4 (bytesV [0, 0, 0, 1]) rfl OW.out ⟨w.heap.size + 1 + 1, 0, none⟩ 4 4 (by decide) (bytesV [0, 0, 0, 0]) rfl rfl HS.out (bytesV_one _) (by decide) (by decide) (Nat.le_trans hzA HBZ.out.size) ?_; intro a1 c1 w1 hown1 k11 k12 k13 hb1 hg1 hf1; rw [← bytesV_append] at hown1; have O1 := Lib.hid hown1; have HB1 := Lib.hid (HBZ.out.trans hb1); clear hown1 k11 k12 k13 hb1 hg1 hf1; (try dsimp only [Act.put]); (try simp only [Nat.reduceAdd]); (try simp only [List.setIfInBounds_toArray, List.set_cons_succ, List.set_cons_zero]))
  clear hA eA
  have hz1 := Nat.le_trans hzA HB1.out.size
  have Y2 := Lib.hid ((HB1.out.block _ (by omega)).trans X2.out)
  have q2 := fun o => cell_of_heap Y2.out o
  have l2 := (Array.getElem?_eq_some_iff.1 Y2.out).1
  obtain ⟨N9, hN9⟩ : ∃ N9, N9 = 6 + 4 * nl := ⟨_, rfl⟩
  obtain ⟨N10, hN10⟩ : ∃ N10, N10 = 6 + 4 * nr := ⟨_, rfl⟩
  have HO1 := Lib.hid (fun (X : World) (hX : Below w1.heap.size w1 X) => of22_row 4 1 (by decide) (by decide) al nl cl lb 4 1 rfl rfl X (HHL.out.below (HBA.out.trans ((HB1.out.trans (hX.mono hz1)).mono (by omega)))) HLL.out hln N9 hN9)
  have HO2 := Lib.hid (fun (X : World) (hX : Below w1.heap.size w1 X) => of22_row 4 1 (by decide) (by decide) ar nr cr rb 4 1 rfl rfl X (HHR.out.below (HBA.out.trans ((HB1.out.trans (hX.mono hz1)).mono (by omega)))) HRL.out hrn N10 hN10)
  have HN9 := Lib.hid hN9
  have HN10 := Lib.hid hN10
  have hN9' : N9 ≤ 5000 := by omega
  have hN10' : N10 ≤ 5000 := by omega
  have hN9p : 0 < N9 := by omega
  have hN10p : 0 < N10 := by omega
  clear hN9 hN10
  go_wp2_with fail
  refine wp_region_tree (.step 0 (.step 1 (.step 2 (.step 3 (.step 5 (.step 6 (.step 7 (.step 8 (.step 4 (.step 9 (.step 10 (.step 11 .nil)))))))))))) (by kernel_rfl) (by kernel_rfl) (by kernel_rfl) (by kernel_rfl) (by intro _ _ d_ _ _ h_; cases d_ <;> first | exact h_ | (dsimp +zetaDelta only at h_ ⊢; exact h_)) (fun w' => ∃ p : Wld w1 [], w' = p.val) (wld_start _ _) ?_
  have hG_ := @wldC w1
  (refine tree_quiet gtA (by rfl) (by rfl) (fun K_ hK_ => ?_); go_big_quiet_op; refine hK_ _ ?_; clear hK_ K_)
  (refine tree_quiet gtA (by rfl) (by rfl) (fun K_ hK_ => ?_); go_big_quiet_op; refine hK_ _ ?_; clear hK_ K_)
  (refine tree_quiet gtA (by rfl) (by rfl) (fun K_ hK_ => ?_); go_big_quiet_op; refine hK_ _ ?_; clear hK_ K_)
  (refine tree_quiet gtA (by rfl) (by rfl) (fun K_ hK_ => ?_); go_big_quiet_op; refine hK_ _ ?_; clear hK_ K_)
  (refine tree_quiet gtA (by rfl) (by rfl) (fun K_ hK_ => ?_); go_big_quiet_op; refine hK_ _ ?_; clear hK_ K_)
  (refine tree_quiet gtA (by rfl) (by rfl) (fun K_ hK_ => ?_); go_big_quiet_op; refine hK_ _ ?_; clear hK_ K_)
  (refine tree_quiet gtA (by rfl) (by rfl) (fun K_ hK_ => ?_); go_big_quiet_op; refine hK_ _ ?_; clear hK_ K_)
  (refine tree_quiet gtA (by rfl) (by rfl) (fun K_ hK_ => ?_); go_big_quiet_op; refine hK_ _ ?_; clear hK_ K_)
  (refine tree_run gtA (by rfl) (by rfl) (fun K_ hK_ => ?_); have HK_ := Lib.hid hK_; clear hK_; go_wp2_with (first | (go_at_call 105; (with_reducible refine (HO1.out _ (by exact blw)).mono ?_); rintro e w5 ⟨g9, c9, rfl, ho5, hb5⟩; have h5c := bc hb5; have h5f := bf hb5; have h5z := hb5.size; (try simp only [World.size_drew] at h5z)) | (go_at_call 105; (with_reducible refine (HO2.out _ (by exact blw)).mono ?_); rintro e w6 ⟨g10, c10, rfl, ho6, hb6⟩; have h6c := bc hb6; have h6f := bf hb6; have h6z := hb6.size; (try simp only [World.size_drew] at h6z))); refine HK_.out _ _ (wld_ofA) ?_; clear HK_)
  (refine tree_run gtA (by rfl) (by rfl) (fun K_ hK_ => ?_); have HK_ := Lib.hid hK_; clear hK_; go_wp2_with (first | (go_at_call 105; (with_reducible refine (HO1.out _ (by exact blw)).mono ?_); rintro e w5 ⟨g9, c9, rfl, ho5, hb5⟩; have h5c := bc hb5; have h5f := bf hb5; have h5z := hb5.size; (try simp only [World.size_drew] at h5z)) | (go_at_call 105; (with_reducible refine (HO2.out _ (by exact blw)).mono ?_); rintro e w6 ⟨g10, c10, rfl, ho6, hb6⟩; have h6c := bc hb6; have h6f := bf hb6; have h6z := hb6.size; (try simp only [World.size_drew] at h6z))); refine HK_.out _ _ (wld_ofA) ?_; clear HK_)
  (refine tree_quiet gtA (by rfl) (by rfl) (fun K_ hK_ => ?_); go_big_quiet_op; refine hK_ _ ?_; clear hK_ K_)
  (refine tree_quiet gtA (by rfl) (by rfl) (fun K_ hK_ => ?_); go_big_quiet_op; refine hK_ _ ?_; clear hK_ K_)
  refine tree_nil ?_
  clear hG_
  have hb16 : Below w1.heap.size w1 w6 := by exact blw
  have hw15 : w1.heap.size ≤ w5.heap.size := by omega
  have hl9 := (ho5.lt g9 (by rfl))
  have hl10 := (ho6.lt g10 (by rfl))
  have hl8 := fun p (hp : a1 = some p) => owns_lt O1.out p hp
  simp only [World.size_drew] at hl9 hl10
  have T9 := Lib.hid (show Two (w.heap.size + 1) w6 a1 8 c1 ([0, 0, 0, 1] ++ [0, 0, 0, 0]) (some ⟨g9, 0, none⟩) N9 c9 (of22B 4 1 lb) from ⟨owns_below O1.out hb16 (Nat.le_refl _), owns_mono (owns_below ho5 hb6 (Nat.le_refl _)) (by have := (show w1.drew.heap.size = w1.heap.size from by first | rfl | simp); omega), fun p q hp hq => by cases hq; show p.block ≠ g9; have := (hl8 p hp).2; have := (show w1.drew.heap.size = w1.heap.size from by first | rfl | simp); omega⟩)
  have T10 := Lib.hid (show Two (w.heap.size + 1) w6 a1 8 c1 ([0, 0, 0, 1] ++ [0, 0, 0, 0]) (some ⟨g10, 0, none⟩) N10 c10 (of22B 4 1 rb) from ⟨owns_below O1.out hb16 (Nat.le_refl _), owns_mono ho6 (by first | omega | (simp only [World.size_drew]; omega)), fun p q hp hq => by cases hq; show p.block ≠ g10; have := (hl8 p hp).2; have := hl10.1; first | omega | (simp only [World.size_drew] at this; omega)⟩)
  have HB6 := Lib.hid (HB1.out.trans (hb16.mono hz1))
  have hz6 := Nat.le_trans hzA HB6.out.size
  have wa : IntKind.i64.wrap (20 + (N9 : Int)) = 20 + (N9 : Int) := IntWalk.i64_in _ (by omega)
  have wb : IntKind.i64.wrap (20 + (N9 : Int) + (N10 : Int)) = 20 + (N9 : Int) + (N10 : Int) := IntWalk.i64_in _ (by omega)
  clear ho5 ho6 hb5 hb6 hb16 hl8 hl9 hl10 h5c h5f h6c h6f O1 HO1 HO2 q2 l2
  have HP1 := Lib.hid (put_z (w.heap.size + 1) a1 8 c1 20 4 20 4 rfl rfl _ w6 T9.out.o1 hz6 (by decide) (by decide) (by decide))
  go_wp2_with (first
    | (go_at_call 67; (with_reducible refine HP1.out.mono ?_); rintro e w7 ⟨a7, c7, rfl, ho7, _, _, _, hb7, _, hf7⟩; have T97 := Lib.hid (T9.out.put1 hf7 ho7); have T107 := Lib.hid (T10.out.put1 hf7 ho7); have HB7 := Lib.hid (HB6.out.trans hb7); have hz7 := Nat.le_trans hzA HB7.out.size; have HP2 := Lib.hid (put_z (w.heap.size + 1) a7 (8 + 4) c7 (20 + N9) 4 (20 + (N9 : Int)) 4 (by simp) rfl _ w7 ho7 hz7 (by omega) (by decide) (by decide)); clear hf7 ho7 hb7)
    | (go_at_call 67; (with_reducible refine HP2.out.mono ?_); rintro e w8 ⟨a8, c8, rfl, ho8, _, _, _, hb8, _, hf8⟩; have T98 := Lib.hid (T97.out.put1 hf8 ho8); have T108 := Lib.hid (T107.out.put1 hf8 ho8); have HB8 := Lib.hid (HB7.out.trans hb8); have hz8 := Nat.le_trans hzA HB8.out.size; have HP3 := Lib.hid (put_z (w.heap.size + 1) a8 (8 + 4 + 4) c8 (20 + N9 + N10) 4 (20 + (N9 : Int) + (N10 : Int)) 4 (by simp) rfl _ w8 ho8 hz8 (by omega) (by decide) (by decide)); clear hf8 ho8 hb8)
    | (go_at_call 67; (with_reducible refine HP3.out.mono ?_); rintro e wc ⟨ac, cc, rfl, hoc, _, _, _, hbc, _, hfc⟩; have T9c := Lib.hid (T98.out.put1 hfc hoc); have T10c := Lib.hid (T108.out.put1 hfc hoc); have HBc := Lib.hid (HB8.out.trans hbc); have hzc := Nat.le_trans hzA HBc.out.size; clear hfc hoc hbc)
    | (at_builtin; refine wpAppF rfl _ _ 22 rfl (w.heap.size + 1) 5 (.int .u8 0) 1 1 Try.underlying22 u8_info rfl (by decide) ac (8 + 4 + 4 + 4) cc _ rfl T9c.out.o1 ⟨g9, 0, none⟩ N9 c9 hN9p (bytesV (of22B 4 1 lb)) rfl (by rw [bytesV_length, of22B_length, HLL.out, HN9.out, Nat.mul_one]) (has_of_owns T9c.out.o2) (bytesV_one _) (by unfold maxLen; omega) (by omega) hzc ?_; intro ae ce we hoe _ _ _ hbe hge hfe; rw [← bytesV_append] at hoe; have T10e := Lib.hid (T10c.out.put1 (PutFar.grown hge hfe) hoe); have HBe := Lib.hid (HBc.out.trans hbe); have hze := Nat.le_trans hzA HBe.out.size; clear hoe hbe hge hfe)
    | (at_builtin; refine wpAppF rfl _ _ 22 rfl (w.heap.size + 1) 5 (.int .u8 0) 1 1 Try.underlying22 u8_info rfl (by decide) ae (8 + 4 + 4 + 4 + N9) ce _ rfl T10e.out.o1 ⟨g10, 0, none⟩ N10 c10 hN10p (bytesV (of22B 4 1 rb)) rfl (by rw [bytesV_length, of22B_length, HRL.out, HN10.out, Nat.mul_one]) (has_of_owns T10e.out.o2) (bytesV_one _) (by unfold maxLen; omega) (by omega) hze ?_; intro af cf wf hof kf1 kf2 kf3 hbf _ _; rw [← bytesV_append] at hof; have HRf := Lib.hid (row22 hof kf1 kf2 kf3 (by simp only [List.length_append, beN_length, of22B_length, HLL.out, HRL.out, HN9.out, HN10.out]; rfl)); have HBf := Lib.hid (HBe.out.trans hbf); have hzf := Nat.le_trans hzA HBf.out.size; have XFf := Lib.hid ((HBf.out.block _ (by omega)).trans X2.out); have qf := fun o => cell_of_heap XFf.out o; have lf := (Array.getElem?_eq_some_iff.1 XFf.out).1; clear hof kf1 kf2 kf3 hbf))
  go_loopw [8, 58] (fun v i wr => ∃ j : Nat, j ≤ nd ∧ i = .int .i64 (j : Nat) ∧ BRow (w.heap.size + 1) ([0, 0, 0, 1] ++ [0, 0, 0, 0] ++ beN 4 20 ++ beN 4 (20 + N9) ++ beN 4 (20 + N9 + N10) ++ of22B 4 1 lb ++ of22B 4 1 rb ++ valsG 4 (ds.take j)) v wr ∧ Below (w.heap.size + 1) A wr) (fun _ i _ => nd - (Go.RowKit.intOf i).toNat)
  case atStart => exact ⟨0, Nat.zero_le _, rfl, by rw [List.take_zero]; simpa only [valsG, List.flatMap_nil, List.append_nil] using HRf.out, HBf.out⟩
  case round =>
    obtain ⟨j, hj, rfl, hr, hb⟩ := hrel
    rename World => wr
    have HR := Lib.hid hr
    have HB := Lib.hid hb
    have hzr := Nat.le_trans hzA hb.size
    clear hr hb
    by_cases hlt : j < nd
    · obtain ⟨x, hx⟩ : ∃ x, ds[j]? = some x := ⟨_, List.getElem?_eq_getElem (by rw [HDL.out]; exact hlt)⟩
      have hxb := HDB.out x (List.mem_of_getElem? hx)
      obtain ⟨g, o, rfl, hg, hci⟩ := (HHD.out.below (HBA.out.trans (HB.out.mono (by omega)))).get (by rw [List.length_map, HDL.out]; omega)
      have c0 := hci j (.int .i16 x) (by simp [hx])
      have HO := Lib.hid (valsG_snoc 4 ds j x hx)
      have wu := u16_of16 hxb
      have wm := m16_lt x
      have wm2 : IntKind.i64.wrap ((m16 x : Nat) : Int) = ((m16 x : Nat) : Int) := IntWalk.i64_in _ (by omega)
      have wi : IntKind.i32.wrap x = x := by rw [IntKind.wrap_i32]; omega
      have wv := u32_of16 hxb
      have wn := m32g_lt hxb
      have wn2 : IntKind.i64.wrap ((m32g x : Nat) : Int) = ((m32g x : Nat) : Int) := IntWalk.i64_in _ (by omega)
      have HV := Lib.hid (show valG 4 x = m32g x from rfl)
      have hSl : (valsG 4 (ds.take j)).length ≤ 4 * 1000 := by rw [valsG_length]; exact Nat.mul_le_mul (by decide) (by rw [List.length_take]; omega)
      have hN1 : (of22B 4 1 lb).length ≤ 5000 := by rw [of22B_length, HLL.out, ← HN9.out]; exact hN9'
      have hN2 : (of22B 4 1 rb).length ≤ 5000 := by rw [of22B_length, HRL.out, ← HN10.out]; exact hN10'
      have hYl : ([0, 0, 0, 1] ++ [0, 0, 0, 0] ++ beN 4 20 ++ beN 4 (20 + N9) ++ beN 4 (20 + N9 + N10) ++ of22B 4 1 lb ++ of22B 4 1 rb ++ valsG 4 (ds.take j) : List UInt8).length ≤ 1000000000 := by
        simp only [List.length_append, beN_length, List.length_replicate, List.length_cons, List.length_nil]
        omega
      have HP := Lib.hid (put_row (w.heap.size + 1) (m32g x) 4 ((m32g x : Nat) : Int) 4 rfl rfl _ _ wr HR.out hzr (by omega) hYl (by decide))
      generalize m16 x = xm at *
      generalize m32g x = xn at *
      clear hx hci hYl
      go_wp2_with (go_at_call 67; (with_reducible refine HP.out.mono ?_); rintro e wk ⟨sk, rfl, hrk, hbk, _⟩; have HRk := Lib.hid hrk; have HBk := Lib.hid (HB.out.trans hbk); clear hrk hbk)
      go_roundw
      case rel => exact ⟨j + 1, hlt, by go_num, by rw [HO.out, HV.out, ← List.append_assoc]; exact HRk.out, HBk.out⟩
      case measure => simp [Go.RowKit.intOf]; omega
    · obtain rfl : nd = j := by omega
      have hr := HR.out
      rw [List.take_of_length_le (by rw [HDL.out]; exact Nat.le_refl _)] at hr
      have HR' := Lib.hid (hr.mono (Nat.le_succ _))
      clear hr HR
      go_wp2_with fail
      go_ret
      exact ⟨_, rfl, by
        have := HR'.out
        rw [HN9.out, HN10.out, ← HLL.out, ← HRL.out] at this
        exact this, HBA.out.trans (HB.out.mono (Nat.le_succ _))⟩
theorem wgrid_any (k : Nat) (hk : k ≤ 2) (z : Int) (hz : z = (k : Nat)) (al : Option Addr) (nl cl : Nat) (lb : List UInt8) (ar : Option Addr) (nr cr : Nat) (rb : List UInt8) (ad : Option Addr) (nd cd : Nat) (ds : List Int) (w : World) (hl : Has w al (bytesV lb)) (hll : lb.length = nl) (hln : nl ≤ 1000) (hr : Has w ar (bytesV rb)) (hrl : rb.length = nr) (hrn : nr ≤ 1000) (hd : Has w ad (ds.map (Value.int .i16))) (hdl : ds.length = nd) (hdn : nd ≤ 1000) (hdb : ∀ x ∈ ds, -32768 ≤ x ∧ x ≤ 32767) :
    Calls Try.prog 58 #[.agg #[.slice al nl cl, .slice ar nr cr, .slice ad nd cd], .int .i64 z] w fun e w' => ∃ v, e = .returned v ∧ BRow w.heap.size (gridB k lb rb ds) v w' ∧ Below w.heap.size w w' := by
  subst hz
  have : k = 0 ∨ k = 1 ∨ k = 2 := by omega
  rcases this with rfl | rfl | rfl
  · exact wgrid0_any al nl cl lb ar nr cr rb ad nd cd ds w hl hll hln hr hrl hrn hd hdl hdn hdb
  · exact wgrid1_any al nl cl lb ar nr cr rb ad nd cd ds w hl hll hln hr hrl hrn hd hdl hdn hdb
  · exact wgrid2_any al nl cl lb ar nr cr rb ad nd cd ds w hl hll hln hr hrl hrn hd hdl hdn hdb
theorem gridB_length (k : Nat) (l r : List UInt8) (ds : List Int) : (gridB k l r ds).length = (hdG k).length + 12 + (6 + szG k * l.length) + (6 + szG k * r.length) + szG k * ds.length := by
  simp only [gridB, List.length_append, beN_length, of22B_length, valsG_length]
  try omega
theorem hdG_length (k : Nat) : (hdG k).length = if k = 0 then 4 else 8 := by
  unfold hdG
  split
  · rfl
  · split <;> rfl
theorem gridB_le (k : Nat) (l r : List UInt8) (ds : List Int) (h1 : l.length ≤ 20) (h2 : r.length ≤ 20) (h3 : ds.length ≤ 600) : (gridB k l r ds).length ≤ 4000 := by
  have hs : szG k = 2 ∨ szG k = 4 := by unfold szG; split <;> simp
  rw [gridB_length, hdG_length]
  rcases hs with e | e <;> rw [e] <;> split <;> omega
end Go.Proofs.Ytbicnkopmamnpaa
end
section

/- What an argument that is a grid's plan of layer 22 is. No condition. -/
namespace Go.Proofs.Ytbicnkopmamnpaa
section
open Go.ChangeShapes Go.WideShapes Go.ChangeAt Go.RowKit
variable {H : Type} {enc : TypeId × Value → H}
theorem wf_i16g {n : Int} (h : (Lit.int .i16 n).wf = true) : -32768 ≤ n ∧ n ≤ 32767 := by
  simp [Lit.wf, IntKind.min, IntKind.max, IntKind.signed, IntKind.bits] at h
  omega
theorem open_i16C {P : Program} {W : World} {t e : TypeId} {f : Nat} {v : Value} {y : DataW H × List MemPlace} (ht : P.underlying t = some (.slice e)) (he : P.underlying e = some (.int .i16))
    (h : DataW.trod enc P W 0 (fun _ => true) true f t [v] = some y) : ∃ (a : Option Addr) (c : Nat) (ss : List Int), v = .slice a ss.length c ∧ Has W a (ss.map (Value.int .i16)) ∧ ∀ x ∈ ss, -32768 ≤ x ∧ x ≤ 32767 := by
  obtain ⟨a, n, c, us, rfl, hl, _, _, _, hh, hx⟩ := open_rows_cell ht h
  have key : ∀ us : List (List Value), (∀ x ∈ us, ∃ m y, DataW.trod enc P W 0 (fun _ => true) true m e x = some y) → ∃ ss : List Int, ss.length = us.length ∧ us.flatten = ss.map (Value.int .i16) ∧ ∀ x ∈ ss, -32768 ≤ x ∧ x ≤ 32767 := by
    intro us
    induction us with
    | nil => exact fun _ => ⟨[], rfl, rfl, fun x hx => by cases hx⟩
    | cons x us ih =>
      intro h
      obtain ⟨ss, h1, h2, h3⟩ := ih (fun y hy => h y (by simp [hy]))
      obtain ⟨m, y, hy⟩ := h x (by simp)
      obtain ⟨z, rfl, _, hw⟩ := DataW.trod_int he hy
      refine ⟨z :: ss, by simp [h1], by simp [h2], fun x hx => ?_⟩
      rcases List.mem_cons.1 hx with rfl | hx
      · exact wf_i16g hw
      · exact h3 x hx
  obtain ⟨ss, h1, h2, h3⟩ := key us (fun x hx' => (hx x hx').2)
  exact ⟨a, c, ss, by rw [h1, hl], h2 ▸ hh, h3⟩
set_option maxRecDepth 100000 in
theorem open_grid {W : World} {base : Nat} {v : Value} {d : DataW H} {pl : List MemPlace} (hv : Value.okWide Try.prog W .any base 119 v) (h : DataW.Trod enc Try.prog W 0 (fun _ => true) true 119 v d pl) :
    ∃ (al : Option Addr) (cl : Nat) (lb : List UInt8) (ar : Option Addr) (cr : Nat) (rb : List UInt8) (ad : Option Addr) (cd : Nat) (ds : List Int), v = .agg #[.slice al lb.length cl, .slice ar rb.length cr, .slice ad ds.length cd] ∧ Has W al (bytesV lb) ∧ Has W ar (bytesV rb) ∧ Has W ad (ds.map (Value.int .i16)) ∧ ∀ x ∈ ds, -32768 ≤ x ∧ x ≤ 32767 := by
  obtain ⟨v0, v1, v2, y0, y1, y2, n, rfl, _, _, h0, h1, h2⟩ := Go.Joins.open_agg3 Try.underlying119 (by kernel_rfl) (by kernel_rfl) hv h
  obtain ⟨al, cl, lb, rfl, hl⟩ := open_bytesC Try.underlying22 Try.underlying5 h0
  obtain ⟨ar, cr, rb, rfl, hr⟩ := open_bytesC Try.underlying22 Try.underlying5 h1
  obtain ⟨ad, cd, ds, rfl, hd, hb⟩ := open_i16C Try.underlying117 Try.underlying112 h2
  exact ⟨al, cl, lb, ar, cr, rb, ad, cd, ds, rfl, hl, hr, hd, hb⟩
end
end Go.Proofs.Ytbicnkopmamnpaa
end
section

/- A lookup's parts, its numbers, and the document's greatest number of a lookup. Conditions: a lookup that was read; sizes. -/
namespace Go.Proofs.Ytbicnkopmamnpaa
open Go.RowKit Go.Lib

theorem foldR_part (bs : List UInt8) : ∀ (rs : List RP) (s : List PartL × List Nat), (∀ k, k < s.1.length → (rs.foldl (stepR bs) s).1[k]? = s.1[k]?) ∧ (∀ j r, rs[j]? = some r → ∃ m, (rs.foldl (stepR bs) s).1[s.1.length + j]? = some ⟨r.first, r.last, m, if r.own = true then 1 else 0⟩)
  | [], s => ⟨fun k _ => rfl, fun j r h => by simp at h⟩
  | r0 :: rs, s => by
    obtain ⟨h1, h2⟩ := foldR_part bs rs (stepR bs s r0)
    have hl : (stepR bs s r0).1.length = s.1.length + 1 := by simp [stepR]
    rw [List.foldl_cons]
    refine ⟨fun k hk => ?_, fun j r hj => ?_⟩
    · rw [h1 k (by omega)]
      show (s.1 ++ _)[k]? = _
      rw [List.getElem?_append_left hk]
    · cases j with
      | zero =>
        simp at hj
        subst hj
        refine ⟨s.2.length, ?_⟩
        rw [Nat.add_zero, h1 _ (by omega)]
        show (s.1 ++ _)[s.1.length]? = _
        rw [List.getElem?_append_right (Nat.le_refl _), Nat.sub_self]
        rfl
      | succ j =>
        obtain ⟨m, hm⟩ := h2 j r (by simpa using hj)
        exact ⟨m, by rw [← hm, hl]; congr 1; omega⟩
theorem tabR_part {bs : List UInt8} {rs : List RP} {j : Nat} {r : RP} (h : rs[j]? = some r) : ∃ m, (tabR bs rs).1[j]? = some ⟨r.first, r.last, m, if r.own = true then 1 else 0⟩ := by
  obtain ⟨m, hm⟩ := (foldR_part bs rs ([], [])).2 j r h
  exact ⟨m, by simpa [tabR] using hm⟩
/-- A glyph that has a number is within a part. -/
theorem lkR_in {bs : List UInt8} {rs : List RP} {id : Int} (h : (lkR bs rs id).2 = true) : ∃ (j : Nat) (r : RP), rs[j]? = some r ∧ (r.first : Int) ≤ id ∧ id ≤ (r.last : Int) := by
  unfold lkR getL at h
  split at h
  · rename_i p hp
    have h1 := List.find?_some hp
    obtain ⟨j, hj⟩ := List.getElem?_of_mem (List.mem_of_find?_eq_some hp)
    have hlt := (List.getElem?_eq_some_iff.1 hj).1
    rw [tabR_len] at hlt
    obtain ⟨m, hm⟩ := tabR_part (bs := bs) (List.getElem?_eq_getElem hlt)
    rw [hj] at hm
    cases hm
    refine ⟨j, rs[j], List.getElem?_eq_getElem hlt, ?_⟩
    simpa [inP] using h1
  · cases h
/-- Where a part has one number, each of its glyphs has that. -/
theorem lkR_one {bs : List UInt8} {rs : List RP} (hf : FitL (tabR bs rs).1 (tabR bs rs).2) {j : Nat} {r : RP} (hj : rs[j]? = some r) (ho : r.own = false) {id : Int} (h1 : (r.first : Int) ≤ id) (h2 : id ≤ (r.last : Int)) : lkR bs rs id = lkR bs rs (r.first : Nat) := by
  obtain ⟨m, hm⟩ := tabR_part (bs := bs) hj
  have hmem := List.mem_of_getElem? hm
  unfold lkR
  rw [getL_in hf.rising hmem h1 h2, getL_in hf.rising hmem (Int.le_refl _) (by show (r.first : Int) ≤ (r.last : Int); omega)]
  simp [ho]
theorem lkR_le' {bs : List UInt8} {rs : List RP} (hf : FitL (tabR bs rs).1 (tabR bs rs).2) (id : Int) : (lkR bs rs id).1 ≤ 4294967295 := by
  unfold lkR getL
  split
  · rename_i p _
    show (tabR bs rs).2.getD _ 0 ≤ _
    rw [List.getD_eq_getElem?_getD]
    cases h : (tabR bs rs).2[p.at_ + p.step * (id - p.first).toNat]? with
    | none => exact Nat.zero_le _
    | some x => exact hf.num x (List.mem_of_getElem? h)
  · exact Nat.zero_le _
theorem lkR_refS {bs : List UInt8} {glyphs size : Nat} {rs : List RP} (h : LkOk bs glyphs size rs) (hg : glyphs ≤ 65535) (hS : size = 2 ∨ size = 4) (id : Int) : refG bs rs id = lkR bs rs id := by
  have := (refG_tab bs rs h.ok (fun r hr => (h.rows.each hg hS).2 r hr) id rs.length (Nat.le_refl _)).1
  rw [List.take_length] at this
  exact this.symm
theorem reflkgetS (a : Option Addr) (n c : Nat) (bs : List UInt8) (glyphs size : Nat) (a' : Option Addr) (c' : Nat) (rs : List RP) (id : Int) (w : World) (h : Has w a (bytesV bs)) (hl : bs.length = n) (h20 : n ≤ 4000) (hr : Has w a' (encRs rs)) (hg : glyphs ≤ 65535) (hS : size = 2 ∨ size = 4) (hok : LkOk bs glyphs size rs) (hid : -9223372036854775808 ≤ id ∧ id ≤ 9223372036854775807) :
    Calls Try.prog 104 #[.agg #[.slice a n c, .slice a' rs.length c'], .int .i64 id] w fun e w' => e = .returned (.tuple #[.int .i64 ((lkR bs rs id).1 : Nat), .bool (lkR bs rs id).2]) ∧ Below w.heap.size w w' := by
  rw [← lkR_refS hok hg hS]
  exact refget_any a n c bs a' c' rs id w h hl (by omega) hr (by have := (hok.rows.each hg hS).1; omega) (by have := hok.fitG hg hS; rwa [hl] at this) hid
theorem reflkS_yes (a : Option Addr) (n c : Nat) (bs : List UInt8) (glyphs size : Nat) (zg zs : Int) (hzg : zg = (glyphs : Nat)) (hzs : zs = (size : Nat)) (hS : size = 2 ∨ size = 4) (rs : List RP) (w : World) (h : Has w a (bytesV bs)) (hl : bs.length = n) (hn : n ≤ c) (hc : c ≤ maxLen) (h20 : n ≤ 4000) (hg1 : 1 ≤ glyphs) (hg2 : glyphs ≤ 65535) (hok : LkOk bs glyphs size rs) :
    Calls Try.prog 98 #[.slice a n c, .int .i64 zg, .int .i64 zs] w fun e w' => ∃ a' c', e = .returned (.tuple #[.agg #[.slice a n c, .slice a' rs.length c'], .bool true]) ∧ Has w' a' (encRs rs) ∧ Below w.heap.size w w' := by
  refine (refRead_any a n c bs glyphs size zg zs hzg hzs hg1 hg2 hS w h hl hn hc h20).mono ?_
  rintro e w' ⟨(⟨rs', a', c', ho, he, hw, _⟩ | ⟨hno, _⟩), hb⟩
  · obtain rfl := hok.det ho
    exact ⟨a', c', he, hw, hb⟩
  · exact absurd hok (hno rs)
theorem reflkS_no (a : Option Addr) (n c : Nat) (bs : List UInt8) (glyphs size : Nat) (zg zs : Int) (hzg : zg = (glyphs : Nat)) (hzs : zs = (size : Nat)) (hS : size = 2 ∨ size = 4) (w : World) (h : Has w a (bytesV bs)) (hl : bs.length = n) (hn : n ≤ c) (hc : c ≤ maxLen) (h20 : n ≤ 4000) (hg1 : 1 ≤ glyphs) (hg2 : glyphs ≤ 65535) (hno : ∀ rs, ¬ LkOk bs glyphs size rs) :
    Calls Try.prog 98 #[.slice a n c, .int .i64 zg, .int .i64 zs] w fun e w' => e = .returned (.tuple #[.agg #[.slice none 0 0, .slice none 0 0], .bool false]) ∧ Below w.heap.size w w' := by
  refine (refRead_any a n c bs glyphs size zg zs hzg hzs hg1 hg2 hS w h hl hn hc h20).mono ?_
  rintro e w' ⟨(⟨rs', a', c', ho, _⟩ | ⟨_, he⟩), hb⟩
  · exact absurd ho (hno rs')
  · exact ⟨he, hb⟩
end Go.Proofs.Ytbicnkopmamnpaa
end
section

/- The document's greatest number of a lookup. Conditions: a lookup that was read; sizes. -/
namespace Go.Proofs.Ytbicnkopmamnpaa
open Go.RowKit Go.Lib

theorem part_at {w : World} {a : Option Addr} {rs : List RP} (h : Has w a (encRs rs)) {k : Nat} {r : RP} (hk : rs[k]? = some r) : ∃ g o, a = some ⟨g, o, none⟩ ∧ g < w.heap.size ∧ w.cell? ⟨g, o + k * 5, none⟩ = some (.int .i64 (r.first : Nat)) ∧ w.cell? ⟨g, o + k * 5 + 1, none⟩ = some (.int .i64 (r.last : Nat)) ∧ w.cell? ⟨g, o + k * 5 + 2, none⟩ = some (.int .i64 (r.at_ : Nat)) ∧ w.cell? ⟨g, o + k * 5 + 3, none⟩ = some (.int .i64 (r.size : Nat)) ∧ w.cell? ⟨g, o + k * 5 + 4, none⟩ = some (.int .i64 ((if r.own = true then r.size else 0 : Nat) : Int)) := by
  have hlt := (List.getElem?_eq_some_iff.1 hk).1
  obtain ⟨g, o, ha, hg, hx⟩ := h.get (by rw [encRs_length]; omega)
  have e := encRs_get rs k r hk
  refine ⟨g, o, ha, hg, hx _ _ (e 0 (by decide)), ?_, ?_, ?_, ?_⟩
  · rw [Nat.add_assoc]; exact hx _ _ (e 1 (by decide))
  · rw [Nat.add_assoc]; exact hx _ _ (e 2 (by decide))
  · rw [Nat.add_assoc]; exact hx _ _ (e 3 (by decide))
  · rw [Nat.add_assoc]; exact hx _ _ (e 4 (by decide))
/-- What is known of the best number, of the glyphs of so many parts. -/
def BestR (bs : List UInt8) (rs : List RP) (i b : Nat) : Prop := (∀ j r id, j < i → rs[j]? = some r → (r.first : Int) ≤ id → id ≤ (r.last : Int) → (lkR bs rs id).1 ≤ b) ∧ (b = 0 ∨ ∃ id, (lkR bs rs id).1 = b)
theorem BestR.max {bs : List UInt8} {rs : List RP} {i b : Nat} (h : BestR bs rs i b) (id : Int) : BestR bs rs i (Nat.max b (lkR bs rs id).1) := by
  refine ⟨fun j r id' h1 h2 h3 h4 => Nat.le_trans (h.1 j r id' h1 h2 h3 h4) (Nat.le_max_left _ _), ?_⟩
  rcases Nat.le_total b (lkR bs rs id).1 with hle | hle
  · exact .inr ⟨id, (Nat.max_eq_right hle).symm⟩
  · rw [show Nat.max b (lkR bs rs id).1 = b from Nat.max_eq_left hle]; exact h.2
set_option maxRecDepth 100000 in
set_option maxHeartbeats 6400000 in
theorem refmost_any (a : Option Addr) (n c : Nat) (bs : List UInt8) (glyphs size : Nat) (a' : Option Addr) (c' : Nat) (rs : List RP) (w : World) (h : Has w a (bytesV bs)) (hl : bs.length = n) (h20 : n ≤ 4000) (hr : Has w a' (encRs rs)) (hg : glyphs ≤ 65535) (hS : size = 2 ∨ size = 4) (hok : LkOk bs glyphs size rs) :
    Calls Try.prog 99 #[.agg #[.slice a n c, .slice a' rs.length c']] w fun e w' => e = .returned (.int .i64 (mostR bs rs : Nat)) ∧ Below w.heap.size w w' := by
  have hAC := allocC
  have hAF := allocF
  have hf := hok.fit hg hS
  have HGT := Lib.hid (fun (id : Int) (hid : -9223372036854775808 ≤ id ∧ id ≤ 9223372036854775807) (W : World) (hW : Below w.heap.size w W) => reflkgetS a n c bs glyphs size a' c' rs id W (h.below hW) hl h20 (hr.below hW) hg hS hok hid)
  have HR := Lib.hid hr
  have HF := Lib.hid hf
  have HEA := Lib.hid (fun r (hr : r ∈ rs) => ((hok.rows.each hg hS).2 r hr))
  have hlen := (hok.rows.each hg hS).1
  have HOW := Lib.hid (fun (j : Nat) (r : RP) (hj : rs[j]? = some r) => show (if r.own = true then r.size else 0) = 0 ↔ r.own = false from by
    obtain ⟨_, h2⟩ := (hok.rows.each hg hS).2 r (List.mem_of_getElem? hj)
    cases r.own <;> simp <;> omega)
  have HRI := Lib.hid (fun (j : Nat) (r : RP) (hj : rs[j]? = some r) => show r.first ≤ r.last from by
    obtain ⟨m, hm⟩ := tabR_part (bs := bs) hj
    exact hf.rising.2 _ (List.mem_of_getElem? hm))
  obtain ⟨k, hk⟩ : ∃ k, k = rs.length := ⟨_, rfl⟩
  have HKL := Lib.hid hk
  rw [← hk] at hlen HGT ⊢
  clear h hr hok hf hl hk
  obtain ⟨W, hW⟩ : ∃ W, W = w.alloc (Obj.cells #[.slice a n c, .slice a' k c'] 42) := ⟨_, rfl⟩
  have hbW : Below w.heap.size w W := by rw [hW]; exact balloc (brefl _) _
  have x1 : W.heap[w.heap.size]? = some (.cells #[.slice a n c, .slice a' k c'] 42 (0, 0)) := by rw [hW]; exact (heap_push _ _ _).trans (if_pos rfl)
  have X1 := Lib.hid x1
  have l1 := (Array.getElem?_eq_some_iff.1 x1).1
  have HBW := Lib.hid hbW
  have hwW := hbW.size
  clear x1 hbW
  go_enter Try.func99, Try.ntmps99
  go_wp2_with fail
  rw [← hW]
  clear hW
  go_loopw [3, 4] (fun v i wr => ∃ (b j : Nat), v = .int .i64 (b : Nat) ∧ i = .int .i64 (j : Nat) ∧ j ≤ k ∧ b ≤ 4294967295 ∧ BestR bs rs j b ∧ Below W.heap.size W wr) (fun _ i _ => k - (Go.RowKit.intOf i).toNat)
  case atStart => exact ⟨0, 0, rfl, rfl, Nat.zero_le _, by omega, ⟨fun j r id h => (by omega), .inl rfl⟩, brefl _⟩
  case round =>
    obtain ⟨b, j, rfl, rfl, hj, hb4, hbest, hb⟩ := hrel
    rename World => wr
    have HBE := Lib.hid hbest
    have HB := Lib.hid hb
    have x1 := (hb.block _ l1).trans X1.out
    have q1 := fun o => cell_of_heap x1 o
    have lr1 := (Array.getElem?_eq_some_iff.1 x1).1
    have hzr := hb.size
    clear hbest hb x1
    by_cases hlt : j < k
    · have hjr := List.getElem?_eq_getElem (show j < rs.length by rw [← HKL.out]; exact hlt)
      generalize rs[j]'(by rw [← HKL.out]; exact hlt) = r at hjr
      have HJ := Lib.hid hjr
      have hea := (HEA.out r (List.mem_of_getElem? hjr)).1
      have hri := HRI.out j r hjr
      have how := HOW.out j r hjr
      obtain ⟨gp, op, hpa, hgp, c0, c1, c2, c3, c4⟩ := part_at (HR.out.below (HBW.out.trans (HB.out.mono hwW))) hjr
      obtain ⟨st, hst⟩ : ∃ st, st = (if r.own = true then r.size else 0) := ⟨_, rfl⟩
      rw [← hst] at c4 how
      have HOWN := Lib.hid how
      subst hpa
      obtain ⟨V, hV⟩ : ∃ V, V = wr.alloc (Obj.cells #[.int .i64 (r.first : Nat), .int .i64 (r.last : Nat), .int .i64 (r.at_ : Nat), .int .i64 (r.size : Nat), .int .i64 (st : Nat)] 222) := ⟨_, rfl⟩
      have hbV : Below wr.heap.size wr V := by rw [hV]; exact balloc (brefl _) _
      have x5 : V.heap[wr.heap.size]? = some (.cells #[.int .i64 (r.first : Nat), .int .i64 (r.last : Nat), .int .i64 (r.at_ : Nat), .int .i64 (r.size : Nat), .int .i64 (st : Nat)] 222 (0, 0)) := by rw [hV]; exact (heap_push _ _ _).trans (if_pos rfl)
      have hV' := hV
      clear how hst hjr
      go_wp2_with fail
      rw [← hV']
      clear hV hV'
      have X5 := Lib.hid x5
      have l5 := (Array.getElem?_eq_some_iff.1 x5).1
      have x1 := (hbV.block _ lr1).trans ((HB.out.block _ l1).trans X1.out)
      have XV1 := Lib.hid x1
      have lV1 := (Array.getElem?_eq_some_iff.1 x1).1
      have HBV := Lib.hid (HB.out.trans (hbV.mono hzr))
      have hzV := hbV.size
      clear hbV x5 x1 q1 c0 c1 c2 c3 c4
      go_loopw [3, 6] (fun v i wq => ∃ (b z : Nat), v = .int .i64 (b : Nat) ∧ i = .int .i64 (z : Nat) ∧ r.first ≤ z ∧ z ≤ r.last + 1 ∧ b ≤ 4294967295 ∧ BestR bs rs j b ∧ (∀ id : Int, (r.first : Int) ≤ id → id < (z : Int) → (lkR bs rs id).1 ≤ b) ∧ Below V.heap.size V wq) (fun _ i _ => r.last + 1 - (Go.RowKit.intOf i).toNat)
      case atStart => exact ⟨b, r.first, rfl, rfl, Nat.le_refl _, by omega, hb4, HBE.out, fun id h1 h2 => (by omega), brefl _⟩
      case round =>
        obtain ⟨b2, z, rfl, rfl, hz1, hz2, hb24, hbest2, hall, hbq⟩ := hrel
        rename World => wq
        have HBE2 := Lib.hid hbest2
        have HALL := Lib.hid hall
        have HBQ := Lib.hid hbq
        have y1 := (hbq.block _ lV1).trans XV1.out
        have y5 := (hbq.block _ l5).trans X5.out
        have q1 := fun o => cell_of_heap y1 o
        have q5 := fun o => cell_of_heap y5 o
        have lq1 := (Array.getElem?_eq_some_iff.1 y1).1
        have lq5 := (Array.getElem?_eq_some_iff.1 y5).1
        have Y5 := Lib.hid y5
        have hzq := hbq.size
        clear hbest2 hall hbq y1 y5
        by_cases hzt : z ≤ r.last
        · have hlk := lkR_le' HF.out (z : Int)
          have HGZ := Lib.hid (fun (U : World) (hU : Below wq.heap.size wq U) => HGT.out (z : Int) (by omega) U (HBW.out.trans ((HBV.out.trans ((HBQ.out.trans (hU.mono hzq)).mono (Nat.le_trans hzr hzV))).mono hwW)))
          have HBM := Lib.hid (HBE2.out.max (z : Int))
          obtain ⟨y, hy⟩ : ∃ y, y = (lkR bs rs (z : Int)).1 := ⟨_, rfl⟩
          obtain ⟨m, hm⟩ : ∃ m, m = Nat.max b2 y := ⟨_, rfl⟩
          rw [← hy] at HGZ HBM hlk
          rw [← hm] at HBM
          have hmy : y ≤ m := by rw [hm]; exact Nat.le_max_right _ _
          have hmb : b2 ≤ m := by rw [hm]; exact Nat.le_max_left _ _
          have hm4 : m ≤ 4294967295 := by rw [hm]; exact Nat.max_le.2 ⟨hb24, hlk⟩
          have HY := Lib.hid hy
          have hmm : (m = y ∧ b2 < y) ∨ (m = b2 ∧ ¬ b2 < y) := by
            rcases Nat.lt_or_ge b2 y with h | h
            · exact .inl ⟨by rw [hm]; exact Nat.max_eq_right (by omega), h⟩
            · exact .inr ⟨by rw [hm]; exact Nat.max_eq_left h, by omega⟩
          have HNX := Lib.hid (show ∀ id : Int, (r.first : Int) ≤ id → id < ((z + 1 : Nat) : Int) → (lkR bs rs id).1 ≤ m from fun id h1 h2 => by
            rcases Int.lt_or_le id (z : Int) with h3 | h3
            · have := HALL.out id h1 h3; omega
            · obtain rfl : id = (z : Int) := by omega
              rw [← HY.out]; exact hmy)
          clear hy hm
          have w1 : IntKind.i64.wrap ((z : Int) + 1) = (z : Int) + 1 := IntWalk.i64_in _ (by omega)
          have w2 : IntKind.i64.wrap ((r.last : Int) + 1) = (r.last : Int) + 1 := IntWalk.i64_in _ (by omega)
          by_cases hst0 : st = 0
          · have hown := HOWN.out.1 hst0
            have d0 : ((st : Int) == 0) = true := by simp; exact hst0
            clear hst0
            have HNT := Lib.hid (show ∀ id : Int, (r.first : Int) ≤ id → id < ((r.last + 1 : Nat) : Int) → (lkR bs rs id).1 ≤ m from fun id h1 h2 => by
              rw [lkR_one HF.out HJ.out hown (by omega) (by omega), ← lkR_one HF.out HJ.out hown (id := (z : Int)) (by omega) (by omega), ← HY.out]
              exact hmy)
            rcases hmm with ⟨em, hle⟩ | ⟨em, hle⟩
            · subst em
              go_wp2_with (go_at_call 104; (with_reducible refine (HGZ.out _ (by exact blw)).mono ?_); rintro e w9 ⟨rfl, hb9⟩; have HB9 := Lib.hid (show Below wq.heap.size wq w9 from by exact blw); have y5 := (hb9.block _ lq5).trans Y5.out; have q5 := (fun o => cell_of_heap y5 o); have lq9 := (Array.getElem?_eq_some_iff.1 y5).1; clear hb9 y5)
              all_goals try (exfalso; omega)
              go_roundw
              case rel => exact ⟨_, r.last + 1, rfl, by go_num, by omega, Nat.le_refl _, hm4, HBM.out, HNT.out, HBQ.out.trans (HB9.out.mono hzq)⟩
              case measure => simp [Go.RowKit.intOf]; omega
            · subst em
              go_wp2_with (go_at_call 104; (with_reducible refine (HGZ.out _ (by exact blw)).mono ?_); rintro e w9 ⟨rfl, hb9⟩; have HB9 := Lib.hid (show Below wq.heap.size wq w9 from by exact blw); have y5 := (hb9.block _ lq5).trans Y5.out; have q5 := (fun o => cell_of_heap y5 o); have lq9 := (Array.getElem?_eq_some_iff.1 y5).1; clear hb9 y5)
              all_goals try (exfalso; omega)
              go_roundw
              case rel => exact ⟨_, r.last + 1, rfl, by go_num, by omega, Nat.le_refl _, hm4, HBM.out, HNT.out, HBQ.out.trans (HB9.out.mono hzq)⟩
              case measure => simp [Go.RowKit.intOf]; omega
          · have d0 : ((st : Int) == 0) = false := by simp; omega
            have d0n : (st == 0) = false := by simp; omega
            rcases hmm with ⟨em, hle⟩ | ⟨em, hle⟩
            · subst em
              go_wp2_with (go_at_call 104; (with_reducible refine (HGZ.out _ (by exact blw)).mono ?_); rintro e w9 ⟨rfl, hb9⟩; have HB9 := Lib.hid (show Below wq.heap.size wq w9 from by exact blw); have y5 := (hb9.block _ lq5).trans Y5.out; have q5 := (fun o => cell_of_heap y5 o); have lq9 := (Array.getElem?_eq_some_iff.1 y5).1; clear hb9 y5)
              all_goals try (exfalso; omega)
              go_roundw
              case rel => exact ⟨_, z + 1, rfl, by go_num, by omega, by omega, hm4, HBM.out, HNX.out, HBQ.out.trans (HB9.out.mono hzq)⟩
              case measure => simp [Go.RowKit.intOf]; omega
            · subst em
              go_wp2_with (go_at_call 104; (with_reducible refine (HGZ.out _ (by exact blw)).mono ?_); rintro e w9 ⟨rfl, hb9⟩; have HB9 := Lib.hid (show Below wq.heap.size wq w9 from by exact blw); have y5 := (hb9.block _ lq5).trans Y5.out; have q5 := (fun o => cell_of_heap y5 o); have lq9 := (Array.getElem?_eq_some_iff.1 y5).1; clear hb9 y5)
              all_goals try (exfalso; omega)
              go_roundw
              case rel => exact ⟨_, z + 1, rfl, by go_num, by omega, by omega, hm4, HBM.out, HNX.out, HBQ.out.trans (HB9.out.mono hzq)⟩
              case measure => simp [Go.RowKit.intOf]; omega
        · obtain rfl : z = r.last + 1 := by omega
          have HNB := Lib.hid (show BestR bs rs (j + 1) b2 from ⟨fun j' r' id h1 h2 h3 h4 => by
            by_cases e : j' = j
            · subst e
              rw [HJ.out] at h2
              cases h2
              exact HALL.out id (by omega) (by omega)
            · exact HBE2.out.1 j' r' id (by omega) h2 h3 h4, HBE2.out.2⟩)
          go_wp2_with fail
          go_roundw
          case rel => exact ⟨b2, j + 1, rfl, by go_num, hlt, hb24, HNB.out, HBV.out.trans (HBQ.out.mono (Nat.le_trans hzr hzV))⟩
          case measure => simp [Go.RowKit.intOf]; omega
    · obtain rfl : k = j := by omega
      have HM := Lib.hid (show b = mostR bs rs from most_is HF.out (fun id hid => by
        obtain ⟨j', r', h1, h2, h3⟩ := lkR_in hid
        exact HBE.out.1 j' r' id (by rw [HKL.out]; exact (List.getElem?_eq_some_iff.1 h1).1) h1 h2 h3) HBE.out.2)
      go_wp2_with fail
      go_ret
      exact ⟨by rw [← HM.out]; rfl, HBW.out.trans (HB.out.mono hwW)⟩
end Go.Proofs.Ytbicnkopmamnpaa
end
section

/- A List of pairs by its bytes: whether they rise, and each one's distance; layer 22's speaks. No condition. -/
namespace Go.Proofs.Ytbicnkopmamnpaa
open Go.RowKit Go.Lib

def RisesP (l : List PrT) : Prop := ∀ (i : Nat) (p q : PrT), l[i]? = some p → l[i + 1]? = some q → p.1 * 65536 + p.2.1 < q.1 * 65536 + q.2.1
theorem listB_ok (l : List PrT) (hn : l.length ≤ 65535) (hok : ∀ p ∈ l, PrT.ok p) : PListOk (listB l) ↔ RisesP l := by
  constructor
  · intro h i p q hp hq
    have := h.rise i (by rw [listB_n l hn]; exact (List.getElem?_eq_some_iff.1 hq).1)
    rw [(listB_at hp (hok p (List.mem_of_getElem? hp))).2.2.2, (listB_at hq (hok q (List.mem_of_getElem? hq))).2.2.2] at this
    exact this
  · intro h
    refine ⟨by rw [listB_n l hn, listB_length]; exact Nat.le_refl _, fun i hi => ?_⟩
    rw [listB_n l hn] at hi
    have hp := List.getElem?_eq_getElem (show i < l.length by omega)
    have hq := List.getElem?_eq_getElem hi
    rw [(listB_at hp (hok _ (List.mem_of_getElem? hp))).2.2.2, (listB_at hq (hok _ (List.mem_of_getElem? hq))).2.2.2]
    exact h i _ _ hp hq
theorem distP_in {l : List PrT} (hn : l.length ≤ 65535) (hok : ∀ p ∈ l, PrT.ok p) (h : PListOk (listB l)) {i : Nat} {p : PrT} (hp : l[i]? = some p) : distP (listB l) (p.1 : Nat) (p.2.1 : Nat) = p.2.2 := by
  have hpo := hok p (List.mem_of_getElem? hp)
  obtain ⟨_, _, e3, e4⟩ := listB_at hp hpo
  rw [distP_at h (by rw [listB_n l hn]; exact (List.getElem?_eq_some_iff.1 hp).1) hpo.1 hpo.2.1 e4, e3, s16_m16 hpo.2.2]
theorem distP_out {l : List PrT} (hn : l.length ≤ 65535) (hok : ∀ p ∈ l, PrT.ok p) {x y : Int} (h : ∀ p ∈ l, ¬ ((p.1 : Int) = x ∧ (p.2.1 : Int) = y)) : distP (listB l) x y = 0 := by
  refine distP_no fun i hi ⟨h1, h2⟩ => ?_
  rw [listB_n l hn] at hi
  have hp := List.getElem?_eq_getElem hi
  obtain ⟨e1, e2, _⟩ := listB_at hp (hok _ (List.mem_of_getElem? hp))
  rw [e1] at h1
  rw [e2] at h2
  exact h _ (List.mem_of_getElem? hp) ⟨h1, h2⟩
/-- Read of a List that was written. -/
theorem pread_list (l : List PrT) (hn : l.length ≤ 1000) (hok : ∀ p ∈ l, PrT.ok p) (a : Option Addr) (n c : Nat) (glyphs : Nat) (zg : Int) (hzg : zg = (glyphs : Nat)) (hg1 : 1 ≤ glyphs) (hg2 : glyphs ≤ 65535) (w : World) (h : Has w a (bytesV (listB l))) (hl : 16 + 6 * l.length = n) :
    Calls Try.prog 53 #[.int .i64 0, .slice a n c, .int .i64 zg] w fun e w' => ((RisesP l ∧ ∃ g, e = .returned (.tuple #[.pointer (some ⟨g, 0, none⟩), .int .i64 0]) ∧ PrIs (spR w.heap.size) w.heap.size g (listB l) 0 [] [] w') ∨ (¬ RisesP l ∧ e = .returned (.tuple #[.pointer none, .int .i64 2]))) ∧ Below w.heap.size w w' := by
  subst hzg
  refine (pread_any 0 a n c (listB l) (glyphs : Nat) w h (by rw [listB_length]; exact hl) (by omega)).mono ?_
  rintro e w' ⟨(⟨hb, _⟩ | ⟨_, hno, he⟩ | ⟨_, r1, r2, g, hok', he, hp⟩), hb⟩
  · unfold badP at hb; omega
  · exact ⟨.inr ⟨fun hr => hno [] [] (.inl ⟨rfl, (listB_ok l (by omega) hok).2 hr, rfl, rfl⟩), he⟩, hb⟩
  · rcases hok' with ⟨_, hlo, rfl, rfl⟩ | ⟨h2, _⟩ | ⟨h6, _⟩
    · exact ⟨.inl ⟨(listB_ok l (by omega) hok).1 hlo, g, he, hp⟩, hb⟩
    · omega
    · omega
theorem pget_list {l : List PrT} (hn : l.length ≤ 1000) (hok : ∀ p ∈ l, PrT.ok p) (hr : RisesP l) (M : Nat → Nat → Prop) (B gx : Nat) (x y : Int) (w : World) (h : PrIs M B gx (listB l) 0 [] [] w) (hx : -9223372036854775808 ≤ x ∧ x ≤ 9223372036854775807) (hy : -9223372036854775808 ≤ y ∧ y ≤ 9223372036854775807) :
    Calls Try.prog 55 #[.pointer (some ⟨gx, 0, none⟩), .int .i64 x, .int .i64 y] w fun e w' => e = .returned (.int .i64 (distP (listB l) x y)) ∧ Below w.heap.size w w' :=
  pget_any M B gx (listB l) 0 9 [] [] x y w h (.inl ⟨rfl, (listB_ok l (by omega) hok).2 hr, rfl, rfl⟩) (by decide) hx hy
theorem eqPtn (w : World) (p : Addr) : (binOp .neq 100 (.pointer (some p)) (.pointer none)).run Try.prog w = .ok (.bool true) w := by kernel_rfl
theorem eqPte (w : World) (p : Addr) : (binOp .eql 100 (.pointer (some p)) (.pointer none)).run Try.prog w = .ok (.bool false) w := by kernel_rfl
theorem eqPnn (w : World) : (binOp .neq 100 (.pointer none) (.pointer none)).run Try.prog w = .ok (.bool false) w := by kernel_rfl
theorem eqPne (w : World) : (binOp .eql 100 (.pointer none) (.pointer none)).run Try.prog w = .ok (.bool true) w := by kernel_rfl
def onePr : List PrT := [(5, 6, -20)]
theorem onePr_ok : ∀ p ∈ onePr, PrT.ok p := by
  intro p hp
  simp [onePr] at hp
  subst hp
  simp [PrT.ok]
theorem onePr_rises : RisesP onePr := fun i p q _ hq => by
  have := (List.getElem?_eq_some_iff.1 hq).1
  simp [onePr] at this
set_option maxRecDepth 100000 in
set_option maxHeartbeats 3200000 in
theorem speaks22_any (w : World) : Calls Try.prog 52 #[] w fun e w' => e = .returned (.bool true) ∧ Below w.heap.size w w' := by
  have hAC := allocC
  have hAF := allocF
  have h1 := eqPtn
  have HW := Lib.hid (fun W (a : Option Addr) (hW : Has W a (prV onePr)) => write22_any a 1 1 onePr W hW rfl (by decide) onePr_ok)
  have d1 : distP (listB onePr) 5 6 = -20 := distP_in (l := onePr) (by decide) onePr_ok ((listB_ok onePr (by decide) onePr_ok).2 onePr_rises) (i := 0) (p := (5, 6, -20)) rfl
  have d2 : distP (listB onePr) 6 5 = 0 := distP_out (by decide) onePr_ok (by intro p hp; simp [onePr] at hp; subst hp; simp)
  have HG := Lib.hid (fun (x y : Int) M B g W hx hy h => pget_list (l := onePr) (by decide) onePr_ok onePr_rises M B g x y W h hx hy)
  have HA := Lib.hid (show Has (w.alloc (Obj.cells #[.int .u16 5, .int .u16 6, .int .i16 (-20)] 114)) (some ⟨w.heap.size, 0, none⟩) (prV onePr) from has_alloc w _ _)
  go_enter Try.func52, Try.ntmps52
  go_wp2_with (first
    | (go_at_call 57; (with_reducible refine (HW.out _ _ HA.out).mono ?_); rintro e w1 ⟨a1, c1, rfl, ho1, _, _, _, hb1⟩; have HO1 := Lib.hid (has_of_owns ho1); have HB1 := Lib.hid (show Below w.heap.size w w1 from by exact blw); clear ho1 hb1)
    | (go_at_call 53; (with_reducible refine (pread_list onePr (by decide) onePr_ok a1 22 c1 9 9 rfl (by decide) (by decide) w1 HO1.out rfl).mono ?_); rintro e w2 ⟨(⟨_, g, rfl, hp⟩ | ⟨hno, _⟩), hb2⟩; rotate_left; (exact absurd onePr_rises hno); have HP2 := Lib.hid hp; have HB2 := Lib.hid (HB1.out.trans (hb2.mono HB1.out.size)); clear hp hb2)
    | (go_at_call 55; (with_reducible refine (HG.out 5 6 _ _ g w2 (by decide) (by decide) HP2.out).mono ?_); rintro e w3 ⟨rfl, hb3⟩; rw [d1]; have HP3 := Lib.hid (HP2.out.below hb3); have HB3 := Lib.hid (HB2.out.trans (hb3.mono HB2.out.size)); clear hb3)
    | (go_at_call 55; (with_reducible refine (HG.out 6 5 _ _ g w3 (by decide) (by decide) HP3.out).mono ?_); rintro e w4 ⟨rfl, hb4⟩; rw [d2]; have HB4 := Lib.hid (HB3.out.trans (hb4.mono HB3.out.size)); clear hb4))
  go_ret
  exact ⟨by first | rfl | simp, HB4.out⟩
end Go.Proofs.Ytbicnkopmamnpaa
end
