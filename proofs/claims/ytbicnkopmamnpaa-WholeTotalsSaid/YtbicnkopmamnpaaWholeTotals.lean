
/- WholeTotals returns true for every pairs, glyphs and advances, and changes nothing: how far a line moves on, each glyph by its own advance and its distance to the next one, is all advances, and all distances, together. No condition beside the row's own. -/
import Derived.Test.YtbicnkopmamnpaaJ01
import Derived.Test.YtbicnkopmamnpaaJ16
import Derived.Test.YtbicnkopmamnpaaJ11
namespace Go.Proofs.Ytbicnkopmamnpaa
open Go.RowKit Go.Lib

def sumF (f : Nat → Int) : Nat → Int
  | 0 => 0
  | n + 1 => sumF f n + f n
theorem sumF_add (f g : Nat → Int) : ∀ n, sumF (fun k => f k + g k) n = sumF f n + sumF g n
  | 0 => rfl
  | n + 1 => by simp only [sumF]; rw [sumF_add f g n]; omega
theorem sumF_congr {f g : Nat → Int} : ∀ n, (∀ k, k < n → f k = g k) → sumF f n = sumF g n
  | 0, _ => rfl
  | n + 1, h => by simp only [sumF]; rw [sumF_congr n (fun k hk => h k (by omega)), h n (by omega)]
theorem sumF_bd {f : Nat → Int} {B : Int} (hf : ∀ k, -B ≤ f k ∧ f k ≤ B) : ∀ n : Nat, -(B * (n : Int)) ≤ sumF f n ∧ sumF f n ≤ B * (n : Int)
  | 0 => by simp [sumF]
  | n + 1 => by
    obtain ⟨h1, h2⟩ := sumF_bd hf n
    obtain ⟨h3, h4⟩ := hf n
    have e : B * ((n + 1 : Nat) : Int) = B * (n : Int) + B := by rw [Int.natCast_add, Int.mul_add]; simp
    simp only [sumF]
    omega
def advF (vs : List Int) (k : Nat) : Int := vs.getD k 0
def disF (bs ids : List UInt8) (k : Nat) : Int := distP bs (((ids.getD k 0).toNat : Nat) : Int) (((ids.getD (k + 1) 0).toNat : Nat) : Int)
theorem distP_bd (bs : List UInt8) (l r : Int) : -32768 ≤ distP bs l r ∧ distP bs l r ≤ 32767 := by
  unfold distP
  split
  · rename_i i _
    have := num2_lt bs (20 + 6 * i)
    unfold s16
    split <;> omega
  · omega
/-- The places behind so many pairs. -/
def linT (vs : List Int) (bs ids : List UInt8) (m i : Nat) : List Pl := (List.range m).map fun k => (advF vs k + (if k + 1 < i then disF bs ids k else 0), 0, 0)
theorem linT_length (vs : List Int) (bs ids : List UInt8) (m i : Nat) : (linT vs bs ids m i).length = m := by simp [linT]
theorem linT_get (vs : List Int) (bs ids : List UInt8) (m i k : Nat) (h : k < m) : (linT vs bs ids m i)[k]? = some (advF vs k + (if k + 1 < i then disF bs ids k else 0), 0, 0) := by simp [linT, h]
theorem linT_in {vs : List Int} (hv : ∀ k, 0 ≤ advF vs k ∧ advF vs k ≤ 65535) (bs ids : List UInt8) (m i : Nat) : In32 (linT vs bs ids m i) := fun p hp => by
  simp only [linT, List.mem_map] at hp
  obtain ⟨k, _, rfl⟩ := hp
  have h1 := hv k
  have h2 := distP_bd bs (((ids.getD k 0).toNat : Nat) : Int) (((ids.getD (k + 1) 0).toNat : Nat) : Int)
  refine ⟨?_, by simp, by simp⟩
  show -2147483648 ≤ advF vs k + (if k + 1 < i then disF bs ids k else 0) ∧ advF vs k + (if k + 1 < i then disF bs ids k else 0) ≤ 2147483647
  unfold disF
  split <;> omega
theorem linT_more {vs : List Int} (hv : ∀ k, 0 ≤ advF vs k ∧ advF vs k ≤ 65535) (bs ids : List UInt8) (m k : Nat) (hk : k + 1 < m) : moreP (linT vs bs ids m (k + 1)) (k : Nat) (disF bs ids k) 0 0 = linT vs bs ids m (k + 2) := by
  rw [moreP_of (linT_get vs bs ids m (k + 1) k (by omega))]
  have h1 := hv k
  have h2 := distP_bd bs (((ids.getD k 0).toNat : Nat) : Int) (((ids.getD (k + 1) 0).toNat : Nat) : Int)
  apply List.ext_getElem?
  intro j
  rw [List.getElem?_set]
  by_cases e : k = j
  · subst e
    rw [if_pos rfl, if_pos (by rw [linT_length]; omega), linT_get _ _ _ _ _ _ (by omega), if_neg (by omega), if_pos (by omega)]
    simp only [Int.add_zero]
    rw [addZ_zero (by omega)]
    have : addZ (advF vs k) (disF bs ids k) = advF vs k + disF bs ids k := by
      unfold addZ
      unfold disF at *
      rw [clampZ_id (n := distP _ _ _) (by omega), clampZ_id (by omega)]
    rw [this]
  · rw [if_neg e]
    by_cases hj : j < m
    · rw [linT_get _ _ _ _ _ _ hj, linT_get _ _ _ _ _ _ hj]
      by_cases h : j + 1 < k + 1
      · rw [if_pos h, if_pos (by omega)]
      · rw [if_neg h, if_neg (by omega)]
    · rw [List.getElem?_eq_none (by rw [linT_length]; omega), List.getElem?_eq_none (by rw [linT_length]; omega)]
theorem linT_sum (vs : List Int) (bs ids : List UInt8) (m i : Nat) (hi : i = if m = 0 then 1 else m) : sumF (fun k => advF vs k + (if k + 1 < i then disF bs ids k else 0)) m = sumF (advF vs) m + sumF (disF bs ids) (i - 1) := by
  rw [sumF_add]
  congr 1
  cases m with
  | zero => rw [hi]; rfl
  | succ m =>
    rw [if_neg (by omega)] at hi
    subst hi
    show sumF (fun k => if k + 1 < m + 1 then disF bs ids k else 0) m + (if m + 1 < m + 1 then disF bs ids m else 0) = sumF (disF bs ids) m
    rw [if_neg (by omega), Int.add_zero]
    exact sumF_congr m fun k hk => if_pos (by omega)
def advL (vs : List Int) (k : Nat) : List Int := (List.range k).map (advF vs)
theorem advL_length (vs : List Int) (k : Nat) : (advL vs k).length = k := by simp [advL]
theorem advL_snoc (vs : List Int) (k : Nat) : iv (advL vs k) ++ iv [advF vs k] = iv (advL vs (k + 1)) := by simp [advL, iv, List.range_succ]
theorem newP_linT {vs : List Int} (hv : ∀ k, 0 ≤ advF vs k ∧ advF vs k ≤ 65535) (bs ids : List UInt8) (m : Nat) : newP (advL vs m) = linT vs bs ids m 1 := by
  simp only [newP, advL, linT, List.map_map]
  apply List.map_congr_left
  intro k _
  have := hv k
  simp only [Function.comp]
  rw [clampZ_id (by omega), if_neg (by omega), Int.add_zero]
def onePq : List PrT := [(1, 2, 3)]
theorem onePq_ok : ∀ p ∈ onePq, PrT.ok p := by
  intro p hp
  simp [onePq] at hp
  subst hp
  simp [PrT.ok]
theorem onePq_rises : RisesP onePq := fun i p q _ hq => by
  have := (List.getElem?_eq_some_iff.1 hq).1
  simp [onePq] at this
theorem info_intT : (Try.prog.info? 3).map (fun i => (i.zero, i.size, i.bytes)) = some (some (.int .i64 0), 1, 8) := by kernel_rfl
set_option maxHeartbeats 25600000 in
set_option maxRecDepth 100000 in
theorem wholeTotals_walk (a : Option Addr) (n c : Nat) (l : List PrT) (ai : Option Addr) (m ci : Nat) (ids : List UInt8) (av : Option Addr) (nv cv : Nat) (vs : List Int) (w : World) (h : Has w a (prV l)) (hl : l.length = n) (hok : ∀ p ∈ l, PrT.ok p) (hi : Has w ai (bytesV ids)) (hil : ids.length = m) (hv : Has w av (vs.map (Value.int .u16))) (hvl : vs.length = nv) (hvb : ∀ z ∈ vs, 0 ≤ z ∧ z ≤ 65535) :
    Calls Try.prog 15 #[.slice a n c, .slice ai m ci, .slice av nv cv] w fun e w' => e = .returned (.bool true) ∧ Below w.heap.size w w' := by
  have hAC := allocC
  have hAF := allocF
  have h1 := eqPte
  have h2 := eqPne
  have HW1 := Lib.hid (fun W (a : Option Addr) (hW : Has W a (prV onePq)) => write22_any a 1 1 onePq W hW rfl (by decide) onePq_ok)
  have d1 : distP (listB onePq) 1 2 = 3 := distP_in (l := onePq) (by decide) onePq_ok ((listB_ok onePq (by decide) onePq_ok).2 onePq_rises) (i := 0) (p := (1, 2, 3)) rfl
  have HG1 := Lib.hid (fun (x y : Int) M B g W hx hy h => pget_list (l := onePq) (by decide) onePq_ok onePq_rises M B g x y W h hx hy)
  have HA := Lib.hid (show Has (w.alloc (Obj.cells #[.int .u16 1, .int .u16 2, .int .i16 3] 114)) (some ⟨w.heap.size, 0, none⟩) (prV onePq) from has_alloc w _ _)
  have HH := Lib.hid h
  have HLN := Lib.hid hl
  have HOK := Lib.hid hok
  have HI := Lib.hid hi
  have HIL := Lib.hid hil
  have HV := Lib.hid hv
  have HVL := Lib.hid hvl
  have HVB := Lib.hid (show ∀ k, 0 ≤ advF vs k ∧ advF vs k ≤ 65535 from fun k => by
    unfold advF
    rw [List.getD_eq_getElem?_getD]
    cases e : vs[k]? with
    | none => simp
    | some z => exact hvb z (List.mem_of_getElem? e))
  clear h hl hok hi hil hv hvl hvb
  by_cases hbig : 60 < n ∨ 60 < m
  · have d : (decide (60 < (n : Int)) || decide (60 < (m : Int))) = true := by simp; omega
    go_enter Try.func15, Try.ntmps15
    go_wp2_with (first
      | (go_at_call 57; (with_reducible refine (HW1.out _ _ HA.out).mono ?_); rintro e w1 ⟨a1, c1, rfl, ho1, _, _, _, hb1⟩; have HO1 := Lib.hid (has_of_owns ho1); have HB1 := Lib.hid (show Below w.heap.size w w1 from by exact blw); clear ho1 hb1)
      | (go_at_call 53; (with_reducible refine (pread_list onePq (by decide) onePq_ok a1 22 c1 9 9 rfl (by decide) (by decide) w1 HO1.out rfl).mono ?_); rintro e w2 ⟨(⟨_, g, rfl, hp⟩ | ⟨hno, _⟩), hb2⟩; rotate_left; (exact absurd onePq_rises hno); have HP2 := Lib.hid hp; have HB2 := Lib.hid (HB1.out.trans (hb2.mono HB1.out.size)); clear hp hb2)
      | (go_at_call 55; (with_reducible refine (HG1.out 1 2 _ _ g w2 (by decide) (by decide) HP2.out).mono ?_); rintro e w3 ⟨rfl, hb3⟩; rw [d1]; have HB3 := Lib.hid (HB2.out.trans (hb3.mono HB2.out.size)); clear hb3))
    all_goals (go_ret; exact ⟨rfl, HB3.out⟩)
  have d : (decide (60 < (n : Int)) || decide (60 < (m : Int))) = false := by simp; omega
  go_enter Try.func15, Try.ntmps15
  go_wp2_with (first
    | (go_at_call 57; (with_reducible refine (HW1.out _ _ HA.out).mono ?_); rintro e w1 ⟨a1, c1, rfl, ho1, _, _, _, hb1⟩; have HO1 := Lib.hid (has_of_owns ho1); have HB1 := Lib.hid (show Below w.heap.size w w1 from by exact blw); clear ho1 hb1)
    | (go_at_call 53; (with_reducible refine (pread_list onePq (by decide) onePq_ok a1 22 c1 9 9 rfl (by decide) (by decide) w1 HO1.out rfl).mono ?_); rintro e w2 ⟨(⟨_, g, rfl, hp⟩ | ⟨hno, _⟩), hb2⟩; rotate_left; (exact absurd onePq_rises hno); have HP2 := Lib.hid hp; have HB2 := Lib.hid (HB1.out.trans (hb2.mono HB1.out.size)); clear hp hb2)
    | (go_at_call 55; (with_reducible refine (HG1.out 1 2 _ _ g w2 (by decide) (by decide) HP2.out).mono ?_); rintro e w3 ⟨rfl, hb3⟩; rw [d1]; have HB3 := Lib.hid (HB2.out.trans (hb3.mono HB2.out.size)); clear hb3))
  refine (write22_any a n c l w3 (HH.out.below HB3.out) HLN.out (by omega) HOK.out).mono ?_
  rintro e w4 ⟨a4, c4, rfl, ho4, _, _, _, hb4⟩
  have HO4 := Lib.hid (has_of_owns ho4)
  have HB4 := Lib.hid (HB3.out.trans (hb4.mono HB3.out.size))
  clear ho4 hb4 HO1 HP2 HB1 HB2 HB3 HW1 HG1 HA
  go_wp2_with fail
  refine (pread_list l (by rw [HLN.out]; omega) HOK.out a4 (16 + 6 * n) c4 300 300 rfl (by decide) (by decide) w4 HO4.out (by rw [HLN.out])).mono ?_
  rintro e w5 ⟨(⟨hr, g5, rfl, hp5⟩ | ⟨_, rfl⟩), hb5⟩
  rotate_left
  · have HB5 := Lib.hid (HB4.out.trans (hb5.mono HB4.out.size))
    clear hb5
    go_wp2_with fail
    go_ret
    exact ⟨rfl, HB5.out⟩
  have HB5 := Lib.hid (HB4.out.trans (hb5.mono HB4.out.size))
  have HGT := Lib.hid (fun (x y : Int) hx hy (X : World) (hX : Below w5.heap.size w5 X) => pget_list (by rw [HLN.out]; omega) HOK.out hr _ _ g5 x y X (hp5.below hX) hx hy)
  have hz5 := HB5.out.size
  clear hb5 hp5 hr HB4 HO4
  go_wp2_with fail
  go_loopw [9, 10, 61] (fun v s i wr => ∃ k : Nat, k ≤ m ∧ i = .int .i64 (k : Nat) ∧ s = .int .i64 (sumF (advF vs) k) ∧ (∃ ax cx, v = .slice ax k cx ∧ wr.ownsRow w5.heap.size 3 1 (.slice ax k cx) k (iv (advL vs k))) ∧ Below w5.heap.size w5 wr) (fun _ _ i _ => m - (Go.RowKit.intOf i).toNat)
  case atStart => exact ⟨0, Nat.zero_le _, rfl, rfl, ⟨none, 0, rfl, World.ownsRow_nil _ _ _ _⟩, Below.refl _ _⟩
  case round =>
    obtain ⟨k, hk, rfl, rfl, ⟨ax, cx, rfl, hox⟩, hb⟩ := hrel
    rename World => wr
    have HOX := Lib.hid hox
    have HB := Lib.hid hb
    have hzr := hb.size
    clear hox hb
    have hsum := sumF_bd (f := advF vs) (B := 65535) (fun j => by have := HVB.out j; omega) k
    by_cases hlt : k < m
    · have hadv := HVB.out k
      have HS := Lib.hid (show sumF (advF vs) (k + 1) = sumF (advF vs) k + advF vs k from rfl)
      have HIV := Lib.hid (advL_snoc vs k)
      obtain ⟨s, hs⟩ : ∃ s, s = sumF (advF vs) k := ⟨_, rfl⟩
      rw [← hs] at HS hsum ⊢
      have w1 : IntKind.i64.wrap s = s := IntWalk.i64_in _ (by omega)
      by_cases hkv : k < nv
      · have dkv : decide ((k : Int) < (nv : Int)) = true := by simp; omega
        obtain ⟨z, hz⟩ : ∃ z, vs[k]? = some z := ⟨_, List.getElem?_eq_getElem (by rw [HVL.out]; exact hkv)⟩
        have hza : advF vs k = z := by unfold advF; rw [List.getD_eq_getElem?_getD, hz]; rfl
        rw [hza] at HS HIV hadv
        obtain ⟨gv, ov, rfl, hgv, hcv⟩ := (HV.out.below (HB5.out.trans (HB.out.mono hz5))).get (by rw [List.length_map, HVL.out]; omega)
        have cz := hcv k (.int .u16 z) (by simp [hz])
        have w2 : IntKind.i64.wrap (s + z) = s + z := IntWalk.i64_in _ (by omega)
        have w3 : IntKind.i64.wrap z = z := IntWalk.i64_in _ (by omega)
        clear hz hza hcv hs
        go_wp2_with (at_builtin; refine wpApp rfl _ _ 30 rfl w5.heap.size 3 (.int .i64 0) 1 8 Try.underlying30 info_intT rfl (by decide) _ k (iv (advL vs k)) rfl (owns_below HOX.out (balloc (brefl wr) _) (Nat.le_refl _)) (some ⟨wr.heap.size, 0, none⟩) 1 1 (iv [z]) rfl (by rfl) (has_alloc wr _ _) (fun h => by cases h) (by intro u hu; simp [iv] at hu; subst hu; rfl) (by unfold maxLen; omega) (by omega) (by simp; omega) ?_; intro a8 c8 w8 ho8 k81 k82 k83 hb8 hg8; have HO8 := Lib.hid ho8; have HB8 := Lib.hid ((HB.out.alloc HB.out.size _).trans hb8); clear ho8 hb8 hg8)
        go_roundw
        case rel =>
          refine ⟨k + 1, hlt, by go_num, by rw [HS.out], ⟨a8, c8, rfl, ?_⟩, HB8.out⟩
          have := HO8.out
          rw [HIV.out] at this
          exact this
        case measure => simp [Go.RowKit.intOf]; omega
      · have dkv : decide ((k : Int) < (nv : Int)) = false := by simp; omega
        have hza : advF vs k = 0 := by unfold advF; rw [List.getD_eq_getElem?_getD, List.getElem?_eq_none (by rw [HVL.out]; omega)]; rfl
        rw [hza] at HS HIV
        clear hza hs
        go_wp2_with (at_builtin; refine wpApp rfl _ _ 30 rfl w5.heap.size 3 (.int .i64 0) 1 8 Try.underlying30 info_intT rfl (by decide) _ k (iv (advL vs k)) rfl (owns_below HOX.out (balloc (brefl wr) _) (Nat.le_refl _)) (some ⟨wr.heap.size, 0, none⟩) 1 1 (iv [0]) rfl (by rfl) (has_alloc wr _ _) (fun h => by cases h) (by intro u hu; simp [iv] at hu; subst hu; rfl) (by unfold maxLen; omega) (by omega) (by simp; omega) ?_; intro a8 c8 w8 ho8 k81 k82 k83 hb8 hg8; have HO8 := Lib.hid ho8; have HB8 := Lib.hid ((HB.out.alloc HB.out.size _).trans hb8); clear ho8 hb8 hg8)
        go_roundw
        case rel =>
          refine ⟨k + 1, hlt, by go_num, by rw [HS.out, Int.add_zero], ⟨a8, c8, rfl, ?_⟩, HB8.out⟩
          have := HO8.out
          rw [HIV.out] at this
          exact this
        case measure => simp [Go.RowKit.intOf]; omega
    · obtain rfl : m = k := by omega
      have HN := Lib.hid (pnew_any 0 ax m cx (advL vs m) wr (has_of_owns HOX.out) (advL_length vs m) (by omega))
      rw [newP_linT HVB.out (listB l) ids m] at HN
      obtain ⟨A, hA⟩ : ∃ A, A = sumF (advF vs) m := ⟨_, rfl⟩
      rw [← hA] at hsum ⊢
      go_wp2_with fail
      refine HN.out.mono ?_
      rintro e w6 ⟨g6, a6, c6, rfl, hG6, hg6, hb6⟩
      have HG6 := Lib.hid hG6
      have HB6 := Lib.hid (HB.out.trans (hb6.mono hzr))
      have hz6 := hb6.size
      clear hG6 hg6 hb6 HN HOX
      go_wp2_with fail
      go_loopw [10, 14] (fun s i wq => ∃ k : Nat, 1 ≤ k ∧ (k ≤ m ∨ k = 1) ∧ i = .int .i64 (k : Nat) ∧ s = .int .i64 (A + sumF (disF (listB l) ids) (k - 1)) ∧ PlIs wr.heap.size g6 _ a6 c6 (linT vs (listB l) ids m k) wq ∧ Below wr.heap.size w6 wq) (fun _ i _ => m - (Go.RowKit.intOf i).toNat)
      case atStart => exact ⟨1, Nat.le_refl _, .inr rfl, rfl, by rw [show sumF (disF (listB l) ids) (1 - 1) = 0 from rfl, Int.add_zero, hA], HG6.out, Below.refl _ _⟩
      case round =>
        obtain ⟨k, hk1, hk2, rfl, rfl, hG, hbq⟩ := hrel
        rename World => wq
        have HG := Lib.hid hG
        have HBQ := Lib.hid (HB6.out.trans (hbq.mono hzr))
        have HBW := Lib.hid hbq
        have hzq := hbq.size
        clear hG hbq
        have hdis := sumF_bd (f := disF (listB l) ids) (B := 32768) (fun j => by have := distP_bd (listB l) (((ids.getD j 0).toNat : Nat) : Int) (((ids.getD (j + 1) 0).toNat : Nat) : Int); unfold disF; omega) (k - 1)
        obtain ⟨D, hD⟩ : ∃ D, D = sumF (disF (listB l) ids) (k - 1) := ⟨_, rfl⟩
        rw [← hD] at hdis ⊢
        by_cases hlt : k < m
        · obtain ⟨q, hq⟩ : ∃ q, k = q + 1 := ⟨k - 1, by omega⟩
          have HS := Lib.hid (show sumF (disF (listB l) ids) (k + 1 - 1) = D + disF (listB l) ids q from by rw [hD, hq]; rfl)
          have HLM := Lib.hid (show moreP (linT vs (listB l) ids m k) (q : Nat) (disF (listB l) ids q) 0 0 = linT vs (listB l) ids m (k + 1) from by rw [hq]; exact linT_more HVB.out (listB l) ids m q (by omega))
          have hdd := distP_bd (listB l) (((ids.getD q 0).toNat : Nat) : Int) (((ids.getD (q + 1) 0).toNat : Nat) : Int)
          have HGU := Lib.hid (fun (X : World) (hX : Below wq.heap.size wq X) => HGT.out (((ids.getD q 0).toNat : Nat) : Int) (((ids.getD (q + 1) 0).toNat : Nat) : Int) (by have := (ids.getD q 0).toNat_lt; omega) (by have := (ids.getD (q + 1) 0).toNat_lt; omega) X (HBQ.out.trans (hX.mono HBQ.out.size)))
          have hc0 := ((HI.out.below (HB5.out.trans (HBQ.out.mono hz5))).get (by rw [bytesV_length, HIL.out]; omega))
          obtain ⟨gi, oi, rfl, hgi, hci⟩ := hc0
          have hx0 : (bytesV ids)[q]? = some (.int .u8 (((ids.getD q 0).toNat : Nat) : Int)) := by
            rw [List.getD_eq_getElem?_getD]
            simp [bytesV, List.getElem?_eq_getElem (show q < ids.length by rw [HIL.out]; omega)]
          have hx1 : (bytesV ids)[k]? = some (.int .u8 (((ids.getD (q + 1) 0).toNat : Nat) : Int)) := by
            rw [List.getD_eq_getElem?_getD, ← hq]
            simp [bytesV, List.getElem?_eq_getElem (show k < ids.length by rw [HIL.out]; omega)]
          have c0 := hci q _ hx0
          have c1 := hci k _ hx1
          have b0 := (ids.getD q 0).toNat_lt
          have b1 := (ids.getD (q + 1) 0).toNat_lt
          rw [show disF (listB l) ids q = distP (listB l) (((ids.getD q 0).toNat : Nat) : Int) (((ids.getD (q + 1) 0).toNat : Nat) : Int) from rfl] at HS HLM
          generalize distP (listB l) (((ids.getD q 0).toNat : Nat) : Int) (((ids.getD (q + 1) 0).toNat : Nat) : Int) = dd at HS HLM hdd HGU
          generalize (ids.getD q 0).toNat = x at *
          generalize (ids.getD (q + 1) 0).toNat = y at *
          have w1 : IntKind.i64.wrap ((k : Int) - 1) = (q : Int) := by rw [IntWalk.i64_in _ (by omega)]; omega
          have w2 : IntKind.i64.wrap (x : Int) = (x : Int) := IntWalk.i64_in _ (by omega)
          have w3 : IntKind.i64.wrap (y : Int) = (y : Int) := IntWalk.i64_in _ (by omega)
          have w4 : IntKind.i64.wrap (A + D + dd) = A + D + dd := IntWalk.i64_in _ (by omega)
          have hqm : q < m := by omega
          clear hx0 hx1 hci hD hA hq
          go_wp2_with fail
          refine wp_region_tree (.step 0 (.step 1 (.step 2 (.step 3 (.step 4 (.step 5 (.step 6 (.step 7 (.step 8 (.step 9 (.step 10 (.step 11 (.step 12 (.step 13 .nil)))))))))))))) (by kernel_rfl) (by kernel_rfl) (by kernel_rfl) (by kernel_rfl) (by intro _ _ d_ _ _ h_; cases d_ <;> first | exact h_ | (dsimp +zetaDelta only at h_ ⊢; exact h_)) (fun w' => ∃ p : Wld wq [], w' = p.val) (wld_start _ _) ?_
          have hG_ := @wldC wq
          (refine tree_quiet gtA (by rfl) (by rfl) (fun K_ hK_ => ?_); go_big_quiet_op; refine hK_ _ ?_; clear hK_ K_)
          (refine tree_quiet gtA (by rfl) (by rfl) (fun K_ hK_ => ?_); go_big_quiet_op; refine hK_ _ ?_; clear hK_ K_)
          (refine tree_quiet gtA (by rfl) (by rfl) (fun K_ hK_ => ?_); go_big_quiet_op; refine hK_ _ ?_; clear hK_ K_)
          (refine tree_quiet gtA (by rfl) (by rfl) (fun K_ hK_ => ?_); go_big_quiet_op; refine hK_ _ ?_; clear hK_ K_)
          (refine tree_quiet gtA (by rfl) (by rfl) (fun K_ hK_ => ?_); go_big_quiet_op; refine hK_ _ ?_; clear hK_ K_)
          (refine tree_quiet gtA (by rfl) (by rfl) (fun K_ hK_ => ?_); go_big_quiet_op; refine hK_ _ ?_; clear hK_ K_)
          (refine tree_quiet gtA (by rfl) (by rfl) (fun K_ hK_ => ?_); go_big_quiet_op; refine hK_ _ ?_; clear hK_ K_)
          (refine tree_quiet gtA (by rfl) (by rfl) (fun K_ hK_ => ?_); go_big_quiet_op; refine hK_ _ ?_; clear hK_ K_)
          (refine tree_quiet gtA (by rfl) (by rfl) (fun K_ hK_ => ?_); go_big_quiet_op; refine hK_ _ ?_; clear hK_ K_)
          (refine tree_quiet gtA (by rfl) (by rfl) (fun K_ hK_ => ?_); go_big_quiet_op; refine hK_ _ ?_; clear hK_ K_)
          (refine tree_quiet gtA (by rfl) (by rfl) (fun K_ hK_ => ?_); go_big_quiet_op; refine hK_ _ ?_; clear hK_ K_)
          (refine tree_quiet gtA (by rfl) (by rfl) (fun K_ hK_ => ?_); go_big_quiet_op; refine hK_ _ ?_; clear hK_ K_)
          (refine tree_run gtA (by rfl) (by rfl) (fun K_ hK_ => ?_); have HK_ := Lib.hid hK_; clear hK_; go_wp2_with ((go_at_call 55; (with_reducible refine (HGU.out _ (by exact blw)).mono ?_); rintro e w7 ⟨rfl, hb7⟩; have h7c := bc hb7; have h7f := bf hb7; have h7z := hb7.size; try simp only [World.size_alloc, World.size_drew] at h7z)); refine HK_.out _ _ (wld_ofA) ?_; clear HK_)
          (refine tree_quiet gtA (by rfl) (by rfl) (fun K_ hK_ => ?_); go_big_quiet_op; refine hK_ _ ?_; clear hK_ K_)
          refine tree_nil ?_
          clear hG_
          have hb7u : Below wq.heap.size wq w7 := by exact blw
          have HG7 := Lib.hid (HG.out.below hb7u)
          have HBW7 := Lib.hid (HBW.out.trans (hb7u.mono (by omega)))
          clear hb7u
          go_wp2_with fail
          refine (palong_any wr.heap.size g6 _ a6 c6 _ (q : Nat) dd w7 HG7.out (linT_in HVB.out _ _ _ _)).mono ?_
          rintro e w8 ⟨rfl, hG8, hS8⟩
          rw [HLM.out] at hG8
          have HG8 := Lib.hid hG8
          have HB8 := Lib.hid (HBW7.out.trans hS8.below)
          clear hG8 hS8
          go_wp2_with fail
          go_roundw
          case rel => exact ⟨k + 1, by omega, .inl hlt, by go_num, by rw [HS.out, Int.add_assoc], HG8.out, HB8.out⟩
          case measure => simp [Go.RowKit.intOf]; omega
        · have HAL := Lib.hid (pall_any wr.heap.size g6 _ a6 c6 _ wq HG.out (by rw [linT_length]; omega))
          have HLE := Lib.hid (plen_any wr.heap.size g6 (decide ((0 : Int) = 2)) a6 c6 (linT vs (listB l) ids m k))
          rw [linT_length] at HAL HLE
          have HE := Lib.hid (show sumF (fun j => advF vs j + (if j + 1 < k then disF (listB l) ids j else 0)) m = A + D from by rw [linT_sum vs (listB l) ids m k (by split <;> omega), hA, hD])
          clear hA hD
          have F0 : ∀ j, -98303 ≤ advF vs j + (if j + 1 < k then disF (listB l) ids j else 0) ∧ advF vs j + (if j + 1 < k then disF (listB l) ids j else 0) ≤ 98303 := fun j => by
            have h1 := HVB.out j
            have h2 := distP_bd (listB l) (((ids.getD j 0).toNat : Nat) : Int) (((ids.getD (j + 1) 0).toNat : Nat) : Int)
            unfold disF
            split <;> omega
          obtain ⟨F, hF⟩ : ∃ F : Nat → Int, F = fun j => advF vs j + (if j + 1 < k then disF (listB l) ids j else 0) := ⟨_, rfl⟩
          have F1 : ∀ j, -98303 ≤ F j ∧ F j ≤ 98303 := by rw [hF]; exact F0
          rw [← hF] at HE
          have HLG := Lib.hid (show ∀ j, j < m → (linT vs (listB l) ids m k)[j]? = some (F j, 0, 0) from fun j hj => by rw [hF]; exact linT_get vs (listB l) ids m k j hj)
          have HF1 := Lib.hid F1
          clear F0 F1 hF
          go_wp2_with fail
          refine HAL.out.mono ?_
          rintro e w8 ⟨a8, c8, rfl, ho8, _, _, _, hb8⟩
          have HO8 := Lib.hid (has_of_owns ho8)
          have HG8 := Lib.hid (HG.out.below hb8)
          have HB8 := Lib.hid (HBQ.out.trans (hb8.mono HBQ.out.size))
          clear ho8 hb8 HAL HG
          go_wp2_with fail
          go_loopw [16, 113] (fun s i wx => ∃ j : Nat, j ≤ m ∧ i = .int .i64 (j : Nat) ∧ s = .int .i64 (sumF F j) ∧ Below w8.heap.size w8 wx) (fun _ i _ => m - (Go.RowKit.intOf i).toNat)
          case atStart => exact ⟨0, Nat.zero_le _, rfl, rfl, Below.refl _ _⟩
          case round =>
            obtain ⟨j, hj, rfl, rfl, hbx⟩ := hrel
            rename World => wx
            have HBX := Lib.hid hbx
            by_cases hlj : j < m
            · obtain ⟨gp, op, p, rfl, hgp, hp, e0, e1, e2⟩ := pv_at (HO8.out.below hbx) (k := j) (by rw [linT_length]; exact hlj)
              rw [HLG.out j hlj] at hp
              injection hp with hp
              subst hp
              simp only at e0 e1 e2
              have hf := HF1.out j
              have hfs := sumF_bd (f := F) (B := 98303) HF1.out j
              have HS := Lib.hid (show sumF F (j + 1) = sumF F j + F j from rfl)
              generalize sumF F j = t at *
              generalize F j = f at *
              have w1 : IntKind.i64.wrap f = f := IntWalk.i64_in _ (by omega)
              have w2 : IntKind.i64.wrap (t + f) = t + f := IntWalk.i64_in _ (by omega)
              clear hbx
              go_wp2_with fail
              go_roundw
              case rel => exact ⟨j + 1, hlj, by go_num, by rw [HS.out], HBX.out.alloc HBX.out.size _⟩
              case measure => simp [Go.RowKit.intOf]; omega
            · obtain rfl : j = m := by omega
              rw [HE.out]
              have HLX := Lib.hid (HLE.out wx (HG8.out.below hbx))
              clear hbx
              go_wp2_with (go_at_call 51; (with_reducible refine HLX.out.mono ?_); rintro e w_ ⟨rfl, rfl⟩)
              go_ret
              exact ⟨by simp, HB5.out.trans ((HB8.out.trans (HBX.out.mono HB8.out.size)).mono hz5)⟩

open Go.ChangeShapes Go.WideShapes Go.ChangeAt Go.RowKit
open Go.ChangeMaps (open_string shut_string)

set_option maxRecDepth 100000 in
theorem wholeTotals_walks (H : Type) (enc : TypeId × Value → H) : Walks H enc 15 [110, 22, 27] := by
  intro W base args ds p hval hA _
  obtain ⟨v0, vs0, d0, ds0, p0, q0, hargs, rfl, rfl, h0, r0⟩ := trodAll_cons hA
  obtain ⟨v1, vs1, d1, ds1, p1, q1, rfl, rfl, rfl, h1, r1⟩ := trodAll_cons r0
  obtain ⟨v2, vs2, d2, ds2, p2, q2, rfl, rfl, rfl, h2, r2⟩ := trodAll_cons r1
  obtain ⟨rfl, rfl, rfl⟩ := trodAll_nil r2
  obtain rfl : args = #[v0, v1, v2] := by cases args; simp_all
  obtain ⟨a, n, c, l, rfl, hl, hh, hok⟩ := open_pairs (hval 0 110 v0 rfl rfl) h0
  obtain ⟨a1, n1, c1, x1, rfl, e1, f1, g1, j1, k1⟩ := open_bytes Try.underlying22 Try.underlying5 (by kernel_rfl) (hval 1 22 v1 rfl rfl) h1
  obtain ⟨a2, n2, c2, zs, rfl, hul, _, _, _, hU, hw0⟩ := open_nums Try.underlying27 Try.underlying111 (hval 2 27 v2 rfl rfl) h2
  exact wholeTotals_walk a n c l a1 n1 c1 x1 a2 n2 c2 zs W hh hl hok e1 f1 hU hul (fun z hz => by obtain ⟨k, rfl, hk⟩ := wf_u16 (hw0 z hz); omega)

set_option maxRecDepth 100000 in
theorem wholeTotals_lifted (os : Os) (started : os.Started) (H : Type) (enc : TypeId × Value → H) :
    ReturnsInHanded {} Try.checked os 15 .any (Rows.wholeTotalsSpec.pre6 enc Try.prog Try.f15 Rows.wholeTotalsRow.domain false) (Rows.wholeTotalsSpec.post enc Try.prog Try.f15 false true false false) :=
  lift_law (s := Rows.wholeTotalsSpec) (fn := Try.f15) started (by kernel_rfl) Try.func15
    (ChangeSpec.witness6 (enc := enc) (C := Try.checked) false ⟨#[], #[.slice none 0 0, .slice none 0 0, .slice none 0 0], []⟩ 8 (by kernel_rfl) (by kernel_rfl) (by kernel_rfl) (by kernel_rfl))
    rfl rfl (fun ds h => by match ds, h with | [d0, d1, d2], _ => rfl) (by intro t ht; simp [Try.params15] at ht; first | (subst ht; exact ⟨by kernel_rfl, of_decide_eq_true (by kernel_rfl)⟩) | (obtain rfl | rfl := ht <;> exact ⟨by kernel_rfl, of_decide_eq_true (by kernel_rfl)⟩) | (obtain rfl | rfl | rfl := ht <;> exact ⟨by kernel_rfl, of_decide_eq_true (by kernel_rfl)⟩) | (obtain rfl | rfl | rfl | rfl := ht <;> exact ⟨by kernel_rfl, of_decide_eq_true (by kernel_rfl)⟩))
    (by rw [Try.params15]; exact wholeTotals_walks H enc)
theorem wholeTotals_over : Rows.wholeTotalsRow.holds Try.pinned (OpenSpec.ofChange Rows.wholeTotalsSpec) :=
  OpenClaim.holds_of_wide 15 Try.f15 rfl rfl rfl rfl rfl rfl rfl ⟨rfl, rfl, rfl, rfl, rfl⟩ rfl rfl rfl rfl rfl (by kernel_rfl) Try.func15 (by kernel_rfl)
    (of_decide_eq_true (by kernel_rfl)) (by unfold Func.isWrapper; first | (rw [if_pos (by decide +kernel)]; kernel_rfl) | (rw [if_neg (by decide +kernel)]; exact ⟨rfl, rfl⟩))
    (fun os started H enc _ => wholeTotals_lifted os started H enc)
theorem wholeTotals_proved : Rows.WholeTotalsSaid := wholeTotals_over
#print axioms wholeTotals_proved
end Go.Proofs.Ytbicnkopmamnpaa
