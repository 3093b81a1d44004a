
/- The walk of SeekPlace. Condition: as many steps as the slice says. -/
import Derived.Test.YtgfhmpcfpjioaaaSSpeak
import Derived.Test.YtgfhmpcfpjioaaaKeptE
namespace Go.Proofs.Ytgfhmpcfpjioaaa
open Go.RowKit

theorem int_info : (Try.prog.info? 3).map (fun i => (i.zero, i.size, i.bytes)) = some (some (.int .i64 0), 1, 8) := by kernel_rfl
/-- The numbers that the law builds: each is above the one ahead by its step and one. -/
def stepsTo : Int → List Nat → List Int
  | _, [] => []
  | x, s :: ss => (x + (1 + s)) :: stepsTo (x + (1 + s)) ss
def lastOf : Int → List Nat → Int
  | x, [] => x
  | x, s :: ss => lastOf (x + (1 + s)) ss
theorem stepsTo_length (x : Int) (ss : List Nat) : (stepsTo x ss).length = ss.length := by
  induction ss generalizing x with
  | nil => rfl
  | cons s ss ih => simp [stepsTo, ih]
theorem stepsTo_snoc (x : Int) (ss : List Nat) (s : Nat) : stepsTo x (ss ++ [s]) = stepsTo x ss ++ [lastOf x ss + (1 + s)] ∧ lastOf x (ss ++ [s]) = lastOf x ss + (1 + s) := by
  induction ss generalizing x with
  | nil => exact ⟨rfl, rfl⟩
  | cons t ss ih =>
    have := ih (x + (1 + t))
    exact ⟨by simp [stepsTo, lastOf, this.1], by simp [lastOf, this.2]⟩
theorem lastOf_le (x : Int) (ss : List Nat) (h : ∀ s ∈ ss, s ≤ 65535) : x ≤ lastOf x ss ∧ lastOf x ss ≤ x + 65536 * ss.length := by
  induction ss generalizing x with
  | nil => simp [lastOf]
  | cons s ss ih =>
    have h1 := ih (x + (1 + s)) (fun t ht => h t (by simp [ht]))
    have h2 := h s (by simp)
    simp only [lastOf, List.length_cons]
    constructor <;> omega
theorem stepsTo_above (x : Int) (ss : List Nat) (i : Nat) (h : i < ss.length) : x < (stepsTo x ss).getD i 0 := by
  induction ss generalizing x i with
  | nil => simp at h
  | cons s ss ih =>
    cases i with
    | zero => simp [stepsTo]; omega
    | succ i =>
      have := ih (x + (1 + s)) i (by simpa using h)
      simp only [stepsTo, List.getD_cons_succ]; omega
theorem stepsTo_rises (x : Int) (ss : List Nat) (i j : Nat) (h : i < j) (hj : j < ss.length) : (stepsTo x ss).getD i 0 < (stepsTo x ss).getD j 0 := by
  induction ss generalizing x i j with
  | nil => simp at hj
  | cons s ss ih =>
    obtain ⟨k, rfl⟩ : ∃ k, j = k + 1 := ⟨j - 1, by omega⟩
    cases i with
    | zero =>
      simp only [stepsTo, List.getD_cons_succ, List.getD_cons_zero]
      exact stepsTo_above _ ss k (by simpa using hj)
    | succ i =>
      simp only [stepsTo, List.getD_cons_succ]
      exact ih _ i k (by omega) (by simpa using hj)
def u16V (ss : List Nat) : List Value := ss.map fun s => .int .u16 (s : Nat)
theorem u16V_length (ss : List Nat) : (u16V ss).length = ss.length := by simp [u16V]
theorem u16V_get (ss : List Nat) (j : Nat) (h : j < ss.length) : (u16V ss)[j]? = some (.int .u16 (ss.getD j 0 : Nat)) := by
  simp [u16V, List.getElem?_map, List.getElem?_eq_getElem h, List.getD_eq_getElem?_getD]
theorem intsV_snoc (zs : List Int) (z : Int) : intsV (zs ++ [z]) = intsV zs ++ [.int .i64 z] := by simp [intsV]
theorem take_next (ss : List Nat) (k : Nat) (h : k < ss.length) : ss.take (k + 1) = ss.take k ++ [ss.getD k 0] := by
  rw [List.take_succ_eq_append_getElem h, List.getD_eq_getElem?_getD, List.getElem?_eq_getElem h]; rfl
def StepRel (B : Nat) (ss : List Nat) (w : World) (l x i : Value) (wr : World) : Prop :=
  ∃ (k : Nat) (a' : Option Addr) (c' : Nat), k ≤ ss.length ∧ i = .int .i64 (k : Nat) ∧ x = .int .i64 (lastOf (-1099511627776) (ss.take k)) ∧ l = .slice a' k c' ∧ k ≤ c' ∧ c' ≤ maxLen ∧ (a' = none → c' = 0) ∧
    wr.ownsRow B 3 1 l k (intsV (stepsTo (-1099511627776) (ss.take k))) ∧ Below w.heap.size w wr
/-- Where a number stands among so many; -1: it doesn't. -/
def thereI (zs : List Int) (x : Int) : Nat → Int
  | 0 => -1
  | k + 1 => if zs.getD k 0 = x then (k : Int) else thereI zs x k
theorem thereI_lt (zs : List Int) (x : Int) (k : Nat) : -1 ≤ thereI zs x k ∧ thereI zs x k < k := by
  induction k with
  | zero => simp [thereI]
  | succ k ih => simp only [thereI]; split <;> omega
theorem thereI_is (zs : List Int) (x : Int) (k i : Nat) (hi : i < k) (hx : zs.getD i 0 = x) (hr : ∀ i j, i < j → j < k → zs.getD i 0 < zs.getD j 0) : thereI zs x k = i := by
  induction k with
  | zero => omega
  | succ k ih =>
    simp only [thereI]
    by_cases h : zs.getD k 0 = x
    · rw [if_pos h]
      rcases Nat.lt_or_ge i k with g | g
      · have := hr i k g (by omega); omega
      · omega
    · rw [if_neg h]
      have : i < k := by
        rcases Nat.lt_or_ge i k with g | g
        · exact g
        · obtain rfl : i = k := by omega
          exact absurd hx h
      exact ih this (fun i j h1 h2 => hr i j h1 (by omega))
theorem thereI_no (zs : List Int) (x : Int) (k : Nat) (h : ∀ i, i < k → zs.getD i 0 ≠ x) : thereI zs x k = -1 := by
  induction k with
  | zero => rfl
  | succ k ih =>
    simp only [thereI]
    rw [if_neg (h k (by omega)), ih (fun i hi => h i (by omega))]
def SeenRel (zs : List Int) (x : Int) (n : Nat) (w : World) (t i : Value) (wr : World) : Prop :=
  ∃ k : Nat, k ≤ n ∧ i = .int .i64 (k : Nat) ∧ t = .int .i64 (thereI zs x k) ∧ Below w.heap.size w wr

theorem place_at (a : Option Addr) (n c : Nat) (zs : List Int) (y : Int) (i : Nat) (w : World) (h : Has w a (intsV zs)) (hl : zs.length = n) (hn : n ≤ c) (hc : c ≤ maxLen) (hr : ∀ i j, i < j → j < n → zs.getD i 0 < zs.getD j 0) (hi : i < n) (hy : zs.getD i 0 = y) :
    Calls Try.prog 20 #[.slice a n c, .int .i64 y] w fun e w' => e = .returned (.tuple #[.int .i64 i, .bool true]) ∧ Below w.heap.size w w' := by
  refine (place_any a n c zs y w h hl hn hc hr).mono ?_
  rintro e w' ⟨(⟨j, hj, hx, he⟩ | ⟨hno, _⟩), hb⟩
  · have : j = i := by
      rw [hl] at hj
      rcases Nat.lt_trichotomy i j with g | g | g
      · have := hr i j g hj; omega
      · exact g.symm
      · have := hr j i g hi; omega
    subst this
    exact ⟨he, hb⟩
  · exact absurd hy (hno i (by omega))
theorem place_x (a : Option Addr) (n c : Nat) (zs : List Int) (x : Int) (w : World) (h : Has w a (intsV zs)) (hl : zs.length = n) (hn : n ≤ c) (hc : c ≤ maxLen) (hr : ∀ i j, i < j → j < n → zs.getD i 0 < zs.getD j 0) :
    Calls Try.prog 20 #[.slice a n c, .int .i64 x] w fun e w' => ((∃ j : Nat, j < n ∧ thereI zs x n = j ∧ e = .returned (.tuple #[.int .i64 j, .bool true])) ∨ (thereI zs x n = -1 ∧ e = .returned (.tuple #[.int .i64 0, .bool false]))) ∧ Below w.heap.size w w' := by
  refine (place_any a n c zs x w h hl hn hc hr).mono ?_
  rintro e w' ⟨(⟨j, hj, hx, he⟩ | ⟨hno, he⟩), hb⟩
  · exact ⟨.inl ⟨j, by omega, thereI_is zs x n j (by omega) hx hr, he⟩, hb⟩
  · exact ⟨.inr ⟨thereI_no zs x n (fun i hi => hno i (by omega)), he⟩, hb⟩

set_option maxRecDepth 100000 in
set_option maxHeartbeats 3200000 in
theorem seekPlace_walk (a : Option Addr) (n c : Nat) (ss : List Nat) (x : Int) (w : World) (h : Has w a (u16V ss)) (hl : ss.length = n) (hn : n ≤ c) (hc : c ≤ maxLen) (hs : ∀ s ∈ ss, s ≤ 65535) (hx : -9223372036854775808 ≤ x ∧ x ≤ 9223372036854775807) :
    Calls Try.prog 6 #[.slice a n c, .int .i64 x] w fun e w' => e = .returned (.bool true) ∧ Below w.heap.size w w' := by
  have hAC := allocC
  have hAF := allocF
  by_cases hbig : 200 < n
  · clear h hl hs
    unfold maxLen at hc
    go_enter Try.func6, Try.ntmps6
    go_wp2_with (first | (go_at_call 14; refine (speaks5_any _).mono ?_; rintro e w1 ⟨rfl, hb1⟩; have h1c := bc hb1; have h1f := bf hb1; have h1z := hb1.size; try simp only [World.size_alloc, World.size_drew] at h1z))
    go_ret
    exact ⟨rfl, (by repeat (first | exact brefl _ | assumption | refine balloc ?_ _ | refine bdrew ?_ _ | refine bdrew1 ?_ | refine bthen ?_ (by assumption) | refine Below.trans ?_ (by assumption) | (refine bset ?_ (by first | (simp; done) | (simp; omega)) _)))⟩
  have HH := Lib.hid h
  have HL := Lib.hid hl
  have HS := Lib.hid hs
  obtain ⟨hx1, hx2⟩ := hx
  clear h hl hs
  go_enter Try.func6, Try.ntmps6
  go_wp2_with (first | (go_at_call 14; refine (speaks5_any _).mono ?_; rintro e w1 ⟨rfl, hb1⟩; have h1c := bc hb1; have h1f := bf hb1; have h1z := hb1.size; try simp only [World.size_alloc, World.size_drew] at h1z))
  have HB1 := Lib.hid hb1
  clear h1c h1f hb1
  go_loopw [5, 6, 23] (StepRel w.heap.size ss w) (fun _ _ i _ => n - (intOf i).toNat)
  case atStart => exact ⟨0, none, 0, Nat.zero_le _, rfl, rfl, rfl, Nat.le_refl _, Nat.zero_le _, fun _ => rfl, World.ownsRow_nil _ _ _ _, HB1.out⟩
  case round =>
    obtain ⟨k, a', c', hk, rfl, rfl, rfl, hk1, hk2, hk3, hown, hbr⟩ := hrel
    have HO := Lib.hid hown
    have HBR := Lib.hid hbr
    have HA' := Lib.hid hk3
    clear hown hbr hk3
    by_cases hlt : k < n
    · obtain ⟨b, o, rfl, hlb, hg⟩ := HH.out.get (by rw [u16V_length, HL.out]; omega)
      have hcell := (HBR.out.cell (p := ⟨b, o + k, none⟩) hlb).trans (hg k _ (u16V_get ss k (by rw [HL.out]; exact hlt)))
      have hsk : ss.getD k 0 ≤ 65535 := HS.out _ (by rw [List.getD_eq_getElem?_getD, List.getElem?_eq_getElem (by rw [HL.out]; exact hlt)]; exact List.getElem_mem _)
      have hle := lastOf_le (-1099511627776) (ss.take k) (fun s hs => HS.out s (List.mem_of_mem_take hs))
      have hlk : (ss.take k).length = k := by rw [List.length_take, HL.out]; omega
      rw [hlk] at hle
      have HT := Lib.hid (take_next ss k (by rw [HL.out]; exact hlt))
      have HSN := Lib.hid (stepsTo_snoc (-1099511627776) (ss.take k) (ss.getD k 0))
      have hlr : b < wr.heap.size := Nat.lt_of_lt_of_le hlb HBR.out.size
      have HLT := Lib.hid hlt
      obtain ⟨hle1, hle2⟩ := hle
      have hle3 : lastOf (-1099511627776) (ss.take k) ≤ 0 := by omega
      generalize ss.getD k 0 = s at *
      generalize hL : lastOf (-1099511627776) (ss.take k) = L at *
      generalize hzs : stepsTo (-1099511627776) (ss.take k) = zs at *
      have HL2 := Lib.hid hL
      have HZ2 := Lib.hid hzs
      clear hg hlk hL hzs hle2
      go_wp2_with (first | (at_builtin; refine wpApp rfl _ _ 29 rfl w.heap.size 3 (.int .i64 0) 1 8 Try.underlying29 int_info rfl (by decide) _ k (intsV zs) rfl (owns_below HO.out (balloc (brefl wr) _) (Nat.le_refl _)) (some ⟨wr.heap.size, 0, none⟩) 1 1 [.int .i64 (L + (1 + (s : Int)))] rfl rfl (has_alloc _ _ _) (fun h => by cases h) (fun u hu => by simp at hu; subst hu; rfl) (by unfold maxLen; omega) (by omega) (by simp; have := HBR.out.size; omega) ?_; intro a2 c2 w2 hown2 k21 k22 k23 hb2 hg2; have HO2 := Lib.hid hown2; have HA2 := Lib.hid k23; have HB2 := Lib.hid hb2; clear hown2 k23 hb2 hg2))
      go_roundw
      case rel =>
        exact ⟨k + 1, a2, c2, by rw [HL.out]; omega, by go_num, by rw [HT.out, HSN.out.2], rfl, k21, k22, HA2.out, by rw [HT.out, HSN.out.1, intsV_snoc]; exact HO2.out, HBR.out.trans (((balloc (brefl wr) _).mono HBR.out.size).trans HB2.out)⟩
      case measure => simp [intOf]; have := HLT.out; omega
    · obtain rfl : k = n := by have := HL.out; omega
      have htk : ss.take k = ss := List.take_of_length_le (by rw [HL.out]; exact Nat.le_refl _)
      have hrise := fun i j (h1 : i < j) (h2 : j < k) => stepsTo_rises (-1099511627776) ss i j h1 (by rw [HL.out]; exact h2)
      have hzl : (stepsTo (-1099511627776) ss).length = k := by rw [stepsTo_length, HL.out]
      rw [htk] at HO
      generalize stepsTo (-1099511627776) ss = zs at *
      have HZL := Lib.hid hzl
      have HRI := Lib.hid hrise
      have HHZ := Lib.hid (has_of_owns HO.out)
      clear hrise hzl htk
      rename World => W
      go_wp2_with fail
      have hclt := hc
      have hc2m : c' ≤ 9223372036854775807 := hk2
      go_loopw [9, 39] (SeenRel zs x k W) (fun _ i _ => k - (intOf i).toNat)
      case atStart => exact ⟨0, Nat.zero_le _, rfl, rfl, Below.refl _ _⟩
      case round =>
        obtain ⟨i, hik, rfl, rfl, hbr⟩ := hrel
        have HR2 := Lib.hid hbr
        clear hbr
        by_cases hlt2 : i < k
        · obtain ⟨b, o, rfl, hlb, hg⟩ := HHZ.out.get (by rw [intsV_length, HZL.out]; omega)
          have hcell := (HR2.out.cell (p := ⟨b, o + i, none⟩) hlb).trans (hg i _ (intsV_get zs i (by rw [HZL.out]; exact hlt2)))
          have HT := Lib.hid (show thereI zs x (i + 1) = if zs.getD i 0 = x then (i : Int) else thereI zs x i from rfl)
          have hlr : b < wr.heap.size := Nat.lt_of_lt_of_le hlb HR2.out.size
          have HPL := Lib.hid (fun W' hw => place_at (some ⟨b, o, none⟩) k c' zs (zs.getD i 0) i W' hw HZL.out hk1 hk2 HRI.out hlt2 rfl)
          clear hg
          generalize zs.getD i 0 = y at *
          generalize thereI zs x i = t at *
          by_cases he : y = x
          · subst he
            go_wp2_with (first | (go_at_call 20; (with_reducible refine (HPL.out _ (HHZ.out.below HR2.out)).mono ?_); rintro e w3 ⟨rfl, hb3⟩; have h3c := bc hb3; have h3f := bf hb3; have h3z := hb3.size; try simp only [World.size_alloc, World.size_drew] at h3z))
            go_roundw
            case rel => exact ⟨i + 1, hlt2, by go_num, by rw [HT.out]; simp, HR2.out.trans (hb3.mono HR2.out.size)⟩
            case measure => simp [intOf]; omega
          · go_wp2_with (first | (go_at_call 20; (with_reducible refine (HPL.out _ (HHZ.out.below HR2.out)).mono ?_); rintro e w3 ⟨rfl, hb3⟩; have h3c := bc hb3; have h3f := bf hb3; have h3z := hb3.size; try simp only [World.size_alloc, World.size_drew] at h3z))
            go_roundw
            case rel => exact ⟨i + 1, hlt2, by go_num, by rw [HT.out]; simp [he], HR2.out.trans (hb3.mono HR2.out.size)⟩
            case measure => simp [intOf]; omega
        · obtain rfl : i = k := by omega
          rename World => W2
          go_wp2_with fail
          refine (place_x a' i c' zs x _ (HHZ.out.below HR2.out) HZL.out hk1 hk2 HRI.out).mono ?_
          rintro e w4 ⟨(⟨j, hj, ht, rfl⟩ | ⟨ht, rfl⟩), hb4⟩
          all_goals
            rw [ht]
            have HT := Lib.hid ht
            have HB4 := Lib.hid (HBR.out.trans ((HR2.out.trans (hb4.mono HR2.out.size)).mono HBR.out.size))
            clear ht hb4
            go_wp2_with fail
            go_ret
            exact ⟨rfl, HB4.out⟩
end Go.Proofs.Ytgfhmpcfpjioaaa
