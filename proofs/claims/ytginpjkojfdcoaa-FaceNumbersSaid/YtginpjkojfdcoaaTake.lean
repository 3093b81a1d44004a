
/- The contract of sfnt.take: a font's tables, or it throws. Conditions: a View's slice has no more bytes than its capacity. -/
import Derived.Test.YtginpjkojfdcoaaSf2
import Derived.Test.YtginpjkojfdcoaaTree
import Derived.Test.YtginpjkojfdcoaaPart
import Derived.Laws.OwnMore
namespace Go.Proofs.Ytginpjkojfdcoaa
open Go.RowKit

def cntOf (bs : List UInt8) : Nat := num bs 4 2
def tagAt (bs : List UInt8) (i : Nat) : List UInt8 := (bs.drop (12 + 16 * i)).take 4
def atAt (bs : List UInt8) (i : Nat) : Nat := num bs (12 + 16 * i + 8) 4
def lenAt (bs : List UInt8) (i : Nat) : Nat := num bs (12 + 16 * i + 12) 4
def ltB (a b : List UInt8) : Bool := Op.bytesLess (str a).toList (str b).toList
structure headOk (bs : List UInt8) : Prop where
  six : 6 ≤ bs.length
  kind : num bs 0 4 = 65536 ∨ num bs 0 4 = 1953658213
  rows : 12 + 16 * cntOf bs ≤ bs.length
def rowOk (bs : List UInt8) (i : Nat) : Prop := (0 < i → ltB (tagAt bs (i - 1)) (tagAt bs i) = true) ∧ atAt bs i + lenAt bs i ≤ bs.length
def isFont (bs : List UInt8) : Prop := headOk bs ∧ ∀ i, i < cntOf bs → rowOk bs i
def tabV (bs : List UInt8) (i : Nat) : List Value := [.string (str (tagAt bs i)), .int .i64 (atAt bs i), .int .i64 (lenAt bs i)]
def tabsV (bs : List UInt8) (k : Nat) : List Value := (List.range k).flatMap (tabV bs)
theorem tabsV_length (bs : List UInt8) (k : Nat) : (tabsV bs k).length = k * 3 := by
  induction k with
  | zero => rfl
  | succ k ih => simp only [tabsV, List.range_succ, List.flatMap_append, List.length_append] at ih ⊢; rw [ih]; simp [tabV]; omega
theorem tabsV_succ (bs : List UInt8) (k : Nat) : tabsV bs (k + 1) = tabsV bs k ++ tabV bs k := by simp [tabsV, List.range_succ]
theorem tabsV_tag (bs : List UInt8) (k i : Nat) (h : i < k) : (tabsV bs k)[i * 3]? = some (.string (str (tagAt bs i))) := by
  induction k with
  | zero => omega
  | succ k ih =>
    rw [tabsV_succ]
    rcases Nat.lt_or_ge i k with g | g
    · rw [List.getElem?_append_left (by rw [tabsV_length]; omega)]; exact ih g
    · obtain rfl : i = k := by omega
      rw [List.getElem?_append_right (by rw [tabsV_length]; omega), tabsV_length, Nat.sub_self]; rfl
def blankV (m : Nat) : List Value := (List.range m).flatMap fun _ => [.string .empty, .int .i64 0, .int .i64 0]
theorem blankV_succ (m : Nat) : blankV (m + 1) = [.string .empty, .int .i64 0, .int .i64 0] ++ blankV m := by simp [blankV, List.range_succ_eq_map, List.flatMap_map]
theorem blankV_length (m : Nat) : (blankV m).length = m * 3 := by
  induction m with
  | zero => rfl
  | succ k ih => rw [blankV_succ, List.length_append, ih]; simp; omega
theorem set_three (A R : List Value) (x0 x1 x2 y0 y1 y2 : Value) (n : Nat) (h : A.length = n) :
    ((((A ++ ([x0, x1, x2] ++ R)).set n y0).set (n + 1) y1).set (n + 2) y2) = (A ++ [y0, y1, y2]) ++ R := by
  subst h
  simp [List.set_append]

theorem tab_info : (Try.prog.info? 63).map (fun i => (i.zero, i.size, i.bytes)) = some (some (.agg #[.string .empty, .int .i64 0, .int .i64 0]), 3, 32) := by kernel_rfl
/-- 'make' of so many elements. -/
theorem wpMake {P : Program} (w : World) {ops : Array Oper} {rest : List Oper} {o : Oper} {a : Act} {Q : Exit → Act → World → Prop}
    (hg : o.guard = none) (l c : Operand) (t : TypeId) (hop : o.op = Op.makeSlice t l c)
    (base : Nat) (e : TypeId) (z : Value) (size bytes : Nat) (h1 : P.underlying t = some (.slice e)) (hi : (P.info? e).map (fun i => (i.zero, i.size, i.bytes)) = some (some z, size, bytes))
    (n : Nat) (hl : a.eval l = .int .i64 (n : Int)) (hc : a.eval c = .int .i64 (n : Int)) (b2 : bytes * n ≤ 281474976710656) (b3 : n ≤ maxLen) (b4 : base ≤ w.heap.size)
    (hK : ∀ w', w'.ownsRow base e size (.slice (some ⟨w.heap.size, 0, none⟩) n n) n (madeCells z.cells (n * size)).toList → Below w.heap.size w w' → wpList P ops Q rest (a.put o.dst (.slice (some ⟨w.heap.size, 0, none⟩) n n)) w') :
    wpList P ops Q (o :: rest) a w := by
  obtain ⟨i, hi', hz, hz1, hz2⟩ := info_parts hi
  subst hz2
  exact wpList_make_full w hg l c t hop base e i z size h1 hi' hz hz1 .i64 .i64 _ _ n hl hc rfl rfl b2 b3 b4 fun w' g1 g2 => hK w' g1 ((Below.refl _ w).grown g2 (Nat.le_refl _) (fun k hk => by cases hk))

/-- The contracts with their numbers as the text spells them. -/
theorem u32_z (a : Option Addr) (n c k : Nat) (z : Int) (hz : z = (k : Nat)) (bs : List UInt8) (w : World) (h : Has w a (bytesV bs)) (hl : bs.length = n) (hk : k + 4 ≤ n) (hn : n ≤ c) (hc : c ≤ maxLen) :
    Calls Try.prog 57 #[.agg #[.slice a n c], .int .i64 z] w fun e w' => e = .returned (.int .i64 (num bs k 4 : Nat)) ∧ Below w.heap.size w w' := by
  subst hz; exact u32_ok a n c k bs w h hl hk hn hc
theorem u16_z (a : Option Addr) (n c k : Nat) (z : Int) (hz : z = (k : Nat)) (bs : List UInt8) (w : World) (h : Has w a (bytesV bs)) (hl : bs.length = n) (hk : k + 2 ≤ n) (hn : n ≤ c) (hc : c ≤ maxLen) :
    Calls Try.prog 59 #[.agg #[.slice a n c], .int .i64 z] w fun e w' => e = .returned (.int .i64 (num bs k 2 : Nat)) ∧ Below w.heap.size w w' := by
  subst hz; exact u16_ok a n c k bs w h hl hk hn hc
theorem cut_z (a : Option Addr) (n c k m : Nat) (y z : Int) (hy : y = (k : Nat)) (hz : z = (m : Nat)) (w : World) (hk : k + m ≤ n) (hn : n ≤ c) (hc : c ≤ maxLen) :
    Calls Try.prog 50 #[.agg #[.slice a n c], .int .i64 y, .int .i64 z] w fun e w' => e = .returned (.agg #[.slice (adv a c k) m (c - k)]) ∧ Below w.heap.size w w' := by
  subst hy; subst hz; exact cut_ok a n c k m w hk hn hc
theorem num_sub (bs : List UInt8) (k m j : Nat) (h : j + 4 ≤ m) : num ((bs.drop k).take m) j 4 = num bs (k + j) 4 := by
  have e : ∀ i, i < m → ((bs.drop k).take m).getD i 0 = bs.getD (k + i) 0 := fun i hi => by
    simp only [List.getD_eq_getElem?_getD, List.getElem?_take, List.getElem?_drop]
    rw [if_pos hi]
  rw [num4, num4, e j (by omega), e (j + 1) (by omega), e (j + 2) (by omega), e (j + 3) (by omega)]
  rfl
theorem owns_eq {w : World} {base e size n : Nat} {v : Value} {xs ys : List Value} (h : w.ownsRow base e size v n xs) (he : xs = ys) : w.ownsRow base e size v n ys := he ▸ h
theorem made_blank (n : Nat) : (madeCells (Value.agg #[.string .empty, .int .i64 0, .int .i64 0]).cells (n * 3)).toList = blankV n := by
  apply List.ext_getElem?
  intro j
  induction n generalizing j with
  | zero => simp [madeCells, blankV]
  | succ n ih =>
    rw [blankV_succ]
    rcases Nat.lt_or_ge j 3 with h | h
    · rw [List.getElem?_append_left (by simpa using h)]
      match j, h with
      | 0, _ => simp [madeCells, Value.cells]
      | 1, _ => simp [madeCells, Value.cells, List.getElem?_range (show 1 < (n + 1) * 3 by omega)]
      | 2, _ => simp [madeCells, Value.cells, List.getElem?_range (show 2 < (n + 1) * 3 by omega)]
    · rw [List.getElem?_append_right (by simpa using h), ← ih]
      obtain ⟨i, rfl⟩ : ∃ i, j = i + 3 := ⟨j - 3, by omega⟩
      simp only [madeCells, Value.cells]
      by_cases hi : i < n * 3
      · simp [hi, show i + 3 < (n + 1) * 3 by omega]
      · simp [hi, show ¬ i + 3 < (n + 1) * 3 by omega]

theorem has_wld {w : World} {a : Option Addr} {xs : List Value} (h : Has w a xs) (p : Wld w []) : Has p.val a xs := by
  intro j u hu
  obtain ⟨q, hq, hc⟩ := h j u hu
  refine ⟨q, hq, ?_⟩
  rw [World.cell?_of_block (p.is.block _ (cell_lt hc) (by simp))]
  exact hc

theorem str_wld {w : World} {base n c : Nat} {a : Option Addr} {bs : List UInt8} (h : w.ownsRow base 5 1 (.slice a n c) n (bytesV bs)) (hl : bs.length = n) (X : List Nat) (hX : ∀ x, x ∈ X → x < base) (p : Wld w X) :
    (convert 25 9 (.slice a n c)).run Try.prog p.val = .ok (.string (str bs)) p.val := by
  refine run_str Try.underlying25 Try.underlying5 Try.underlying9 ?_ hl
  intro j u hu
  obtain ⟨q, hq, hc⟩ := has_of_owns h j u hu
  refine ⟨q, hq, ?_⟩
  rw [World.cell?_of_block (p.is.block _ (cell_lt hc) ?_)]
  · exact hc
  · intro hm
    have h1 := hX _ hm
    rw [add_block] at h1
    rcases h.2 with ⟨hv, _⟩ | ⟨g, cap, cur, hv, hg, _⟩
    · cases hv; cases hq
    · injection hv with h2
      rw [h2] at hq
      cases hq
      simp only at h1
      omega

theorem own_cell {w : World} {base e size n g cap : Nat} {xs : List Value} (h : w.ownsRow base e size (.slice (some ⟨g, 0, none⟩) n cap) n xs) {j : Nat} (hj : j < n * size) : ∃ x, w.cell? ⟨g, j, none⟩ = some x := by
  have h1 := h.cellAt j hj
  rw [List.getElem?_eq_getElem (by rw [h.1]; exact hj)] at h1
  exact ⟨_, h1⟩

def TakeRel (W : World) (bs : List UInt8) (g0 : Nat) (a : Option Addr) (n c g5 : Nat) (A : Option Addr) (p C : Nat) (g : Nat) (i : Value) (wr : World) : Prop :=
  ∃ k, k ≤ cntOf bs ∧ i = .int .i64 (k : Nat) ∧ (∀ j, j < k → rowOk bs j) ∧ wr.ownsRow W.heap.size 63 3 (.slice (some ⟨g, 0, none⟩) (cntOf bs) (cntOf bs)) (cntOf bs) (tabsV bs k ++ blankV (cntOf bs - k)) ∧
    wr.cell? ⟨g0, 0, none⟩ = some (.slice a n c) ∧ wr.cell? ⟨g5, 0, none⟩ = some (.slice A p C) ∧ Below W.heap.size W wr

theorem cell_other {w : World} {p q : Addr} (v : Value) (h : q.block ≠ p.block) : (w.setCell p v).cell? q = w.cell? q := World.cell?_of_block (Below.heap_setCell _ _ _ _ h)
theorem take_step {w W : World} {bs : List UInt8} {N k g5 n c p C : Nat} {a A : Option Addr} {i : Value} {t at_ le_ : Nat} {o0 o1 o2 : Nat} (hN : cntOf bs = N) (hk : k < N) (ht : t = k) (hi : i = .int .i64 ((k + 1 : Nat) : Int)) (hrows : ∀ j, j < k → rowOk bs j) (hrow : rowOk bs k)
    (ha : atAt bs k = at_) (hl : lenAt bs k = le_) (hO : W.ownsRow w.heap.size 63 3 (.slice (some ⟨g5 + 1, 0, none⟩) N N) N (tabsV bs k ++ blankV (N - k)))
    (d0 : W.cell? ⟨w.heap.size, 0, none⟩ = some (.slice a n c)) (d5 : W.cell? ⟨g5, 0, none⟩ = some (.slice A p C)) (hb : Below w.heap.size w W) (h05 : w.heap.size < g5) (e0 : o0 = k * 3) (e1 : o1 = k * 3 + 1) (e2 : o2 = k * 3 + 2) :
    TakeRel w bs w.heap.size a n c g5 A p C (g5 + 1) i (((W.setCell ⟨g5 + 1, o0, none⟩ (.string (str (tagAt bs t)))).setCell ⟨g5 + 1, o1, none⟩ (.int .i64 at_)).setCell ⟨g5 + 1, o2, none⟩ (.int .i64 le_)) := by
  subst ht e0 e1 e2 hN
  refine ⟨t + 1, hk, hi, fun j hj => ?_, ?_, ?_, ?_, ?_⟩
  · rcases Nat.lt_or_ge j t with h | h
    · exact hrows j h
    · obtain rfl : j = t := by omega
      exact hrow
  · have h3 := (((hO.stored (t * 3) (.string (str (tagAt bs t)))).1.stored (t * 3 + 1) (.int .i64 at_)).1.stored (t * 3 + 2) (.int .i64 le_)).1
    refine owns_eq h3 ?_
    obtain ⟨m, hm⟩ : ∃ m, cntOf bs - t = m + 1 := ⟨cntOf bs - t - 1, by omega⟩
    rw [hm, blankV_succ, set_three _ _ _ _ _ _ _ _ _ (tabsV_length bs t), tabsV_succ, show cntOf bs - (t + 1) = m by omega, tabV, ha, hl]
  · rw [cell_other _ (by simp; omega), cell_other _ (by simp; omega), cell_other _ (by simp; omega)]; exact d0
  · rw [cell_other _ (by simp), cell_other _ (by simp), cell_other _ (by simp)]; exact d5
  · exact bset (bset (bset hb (by simp; omega) _) (by simp; omega) _) (by simp; omega) _

set_option maxRecDepth 100000 in
set_option maxHeartbeats 1600000 in
theorem take_any (a : Option Addr) (n c : Nat) (bs : List UInt8) (w : World) (h : Has w a (bytesV bs)) (hl : bs.length = n) (hn : n ≤ c) (hc : c ≤ maxLen) :
    Calls Try.prog 46 #[.agg #[.slice a n c]] w fun e w' => ((∃ g, e = .returned (.slice (some ⟨g, 0, none⟩) (cntOf bs) (cntOf bs)) ∧ w'.ownsRow w.heap.size 63 3 (.slice (some ⟨g, 0, none⟩) (cntOf bs) (cntOf bs)) (cntOf bs) (tabsV bs (cntOf bs)) ∧ isFont bs) ∨ (e = .panicked thrown ∧ ¬ isFont bs)) ∧ Below w.heap.size w w' := by
  have HH := Lib.hid h
  have HL := Lib.hid hl
  clear h hl
  have hcm := hc
  unfold maxLen at hcm
  have hAC := allocC
  have hAF := allocF
  by_cases h4 : n < 4
  · go_enter Try.func46, Try.ntmps46
    go_wp2_with (first | (go_at_call 57; refine (u32_bad _ _ _ (0 : Int) _ (by omega) hn hc).mono ?_; rintro e w1 ⟨rfl, hb1⟩; have h1c := bc hb1; have h1f := bf hb1; have h1z := hb1.size; try simp only [World.size_alloc, World.size_drew] at h1z))
    exact ⟨rfl, .inr ⟨rfl, fun hf => by have := hf.1.six; have := HL.out; omega⟩, (by repeat (first | exact brefl _ | assumption | refine balloc ?_ _ | refine bdrew ?_ _ | refine bdrew1 ?_ | refine bthen ?_ (by assumption) | refine Below.trans ?_ (by assumption) | (refine bset ?_ (by first | (simp; done) | (simp; omega)) _)))⟩
  by_cases hk : num bs 0 4 = 65536 ∨ num bs 0 4 = 1953658213
  case neg =>
    have hd : ((((num bs 0 4 : Nat) : Int) == 65536) || (((num bs 0 4 : Nat) : Int) == 1953658213)) = false := by
      rw [Bool.or_eq_false_iff, beq_eq_false_iff_ne, beq_eq_false_iff_ne]
      omega
    have HK := Lib.hid hk
    have HD := Lib.hid hd
    clear hd
    go_enter Try.func46, Try.ntmps46
    go_wp2_with (first
      | (go_at_call 57; refine (u32_ok _ _ _ 0 bs _ (HH.out.below (by repeat (first | exact brefl _ | assumption | refine balloc ?_ _ | refine bdrew ?_ _ | refine bdrew1 ?_ | refine bthen ?_ (by assumption) | refine Below.trans ?_ (by assumption) | (refine bset ?_ (by first | (simp; done) | (simp; omega)) _)))) HL.out (by omega) hn hc).mono ?_; rintro e w1 ⟨rfl, hb1⟩; have h1c := bc hb1; have h1f := bf hb1; have h1z := hb1.size; try simp only [World.size_alloc, World.size_drew] at h1z)
      | (go_at_call 58; refine (need_f _ (by first | rfl | exact HD.out | trace_state) _).mono ?_; rintro e w_ ⟨rfl, rfl⟩))
    exact ⟨rfl, .inr ⟨rfl, fun hf => HK.out hf.1.kind⟩, (by repeat (first | exact brefl _ | assumption | refine balloc ?_ _ | refine bdrew ?_ _ | refine bdrew1 ?_ | refine bthen ?_ (by assumption) | refine Below.trans ?_ (by assumption) | (refine bset ?_ (by first | (simp; done) | (simp; omega)) _)))⟩
  case pos =>
    have HK := Lib.hid hk
    have hU : ∃ z : Nat, num bs 0 4 = z ∧ (z = 65536 ∨ z = 1953658213) := ⟨_, rfl, hk⟩
    obtain ⟨z, hz, hz2⟩ := hU
    have hu32 := fun w' hw => u32_ok a n c 0 bs w' hw HL.out (by omega) hn hc
    rw [hz] at hu32
    have HU := Lib.hid hu32
    clear hu32 hk hz
    have hcl := num2_lt bs 4
    have HCNT := Lib.hid (show cntOf bs = num bs 4 2 from rfl)
    generalize hN : num bs 4 2 = N at *
    have HNU := Lib.hid hN
    clear hN
    by_cases h6 : n < 6
    · rcases hz2 with rfl | rfl
      all_goals
        go_enter Try.func46, Try.ntmps46
        go_wp2_with (first
          | (go_at_call 57; refine (HU.out _ (HH.out.below (by repeat (first | exact brefl _ | assumption | refine balloc ?_ _ | refine bdrew ?_ _ | refine bdrew1 ?_ | refine bthen ?_ (by assumption) | refine Below.trans ?_ (by assumption) | (refine bset ?_ (by first | (simp; done) | (simp; omega)) _))))).mono ?_; rintro e w1 ⟨rfl, hb1⟩; have h1c := bc hb1; have h1f := bf hb1; have h1z := hb1.size; try simp only [World.size_alloc, World.size_drew] at h1z)
          | (go_at_call 58; refine (need_t _ (by first | rfl | simp) _).mono ?_; rintro e w_ ⟨rfl, rfl⟩)
          | (go_at_call 59; refine (u16_bad _ _ _ (4 : Int) _ (by omega) hn hc).mono ?_; rintro e w2 ⟨rfl, hb2⟩; have h2c := bc hb2; have h2f := bf hb2; have h2z := hb2.size; try simp only [World.size_alloc, World.size_drew] at h2z))
        exact ⟨rfl, .inr ⟨rfl, fun hf => by have := hf.1.six; have := HL.out; omega⟩, (by repeat (first | exact brefl _ | assumption | refine balloc ?_ _ | refine bdrew ?_ _ | refine bdrew1 ?_ | refine bthen ?_ (by assumption) | refine Below.trans ?_ (by assumption) | (refine bset ?_ (by first | (simp; done) | (simp; omega)) _)))⟩
    have hu16 := fun w' hw => u16_ok a n c 4 bs w' hw HL.out (by omega) hn hc
    rw [HNU.out] at hu16
    have HU2 := Lib.hid hu16
    clear hu16
    by_cases hr : 12 + 16 * N ≤ n
    case neg =>
      have hrb := fun w' => rows_bad a n c ((12 : Nat) : Int) ((N : Nat) : Int) ((16 : Nat) : Int) w' (by omega) (by omega) (by simp only [Int.toNat_natCast]; omega) hn hc
      have HRB := Lib.hid hrb
      clear hrb
      rcases hz2 with rfl | rfl
      all_goals
        go_enter Try.func46, Try.ntmps46
        go_wp2_with (first
          | (go_at_call 57; refine (HU.out _ (HH.out.below (by repeat (first | exact brefl _ | assumption | refine balloc ?_ _ | refine bdrew ?_ _ | refine bdrew1 ?_ | refine bthen ?_ (by assumption) | refine Below.trans ?_ (by assumption) | (refine bset ?_ (by first | (simp; done) | (simp; omega)) _))))).mono ?_; rintro e w1 ⟨rfl, hb1⟩; have h1c := bc hb1; have h1f := bf hb1; have h1z := hb1.size; try simp only [World.size_alloc, World.size_drew] at h1z)
          | (go_at_call 58; refine (need_t _ (by first | rfl | simp) _).mono ?_; rintro e w_ ⟨rfl, rfl⟩)
          | (go_at_call 59; refine (HU2.out _ (HH.out.below (by repeat (first | exact brefl _ | assumption | refine balloc ?_ _ | refine bdrew ?_ _ | refine bdrew1 ?_ | refine bthen ?_ (by assumption) | refine Below.trans ?_ (by assumption) | (refine bset ?_ (by first | (simp; done) | (simp; omega)) _))))).mono ?_; rintro e w2 ⟨rfl, hb2⟩; have h2c := bc hb2; have h2f := bf hb2; have h2z := hb2.size; try simp only [World.size_alloc, World.size_drew] at h2z)
          | (go_at_call 60; refine (HRB.out _).mono ?_; rintro e w3 ⟨rfl, hb3⟩; have h3c := bc hb3; have h3f := bf hb3; have h3z := hb3.size; try simp only [World.size_alloc, World.size_drew] at h3z))
        exact ⟨rfl, .inr ⟨rfl, fun hf => by have := hf.1.rows; have := HL.out; have := HCNT.out; omega⟩, (by repeat (first | exact brefl _ | assumption | refine balloc ?_ _ | refine bdrew ?_ _ | refine bdrew1 ?_ | refine bthen ?_ (by assumption) | refine Below.trans ?_ (by assumption) | (refine bset ?_ (by first | (simp; done) | (simp; omega)) _)))⟩
    have HRO := Lib.hid (show headOk bs from ⟨by rw [HL.out]; omega, HK.out, by rw [HL.out, HCNT.out]; exact hr⟩)
    have hro := fun w' => rows_ok a n c 12 N 16 (N * 16) w' rfl (by omega) (by omega) (by omega) (by omega) hn hc
    have HRW := Lib.hid hro
    clear hro
    rcases hz2 with rfl | rfl
    all_goals
      go_enter Try.func46, Try.ntmps46
      go_wp2_with (first
        | (go_at_call 57; refine (HU.out _ (HH.out.below (by repeat (first | exact brefl _ | assumption | refine balloc ?_ _ | refine bdrew ?_ _ | refine bdrew1 ?_ | refine bthen ?_ (by assumption) | refine Below.trans ?_ (by assumption) | (refine bset ?_ (by first | (simp; done) | (simp; omega)) _))))).mono ?_; rintro e w1 ⟨rfl, hb1⟩; have h1c := bc hb1; have h1f := bf hb1; have h1z := hb1.size; try simp only [World.size_alloc, World.size_drew] at h1z)
        | (go_at_call 58; refine (need_t _ (by first | rfl | simp) _).mono ?_; rintro e w_ ⟨rfl, rfl⟩)
        | (go_at_call 59; refine (HU2.out _ (HH.out.below (by repeat (first | exact brefl _ | assumption | refine balloc ?_ _ | refine bdrew ?_ _ | refine bdrew1 ?_ | refine bthen ?_ (by assumption) | refine Below.trans ?_ (by assumption) | (refine bset ?_ (by first | (simp; done) | (simp; omega)) _))))).mono ?_; rintro e w2 ⟨rfl, hb2⟩; have h2c := bc hb2; have h2f := bf hb2; have h2z := hb2.size; try simp only [World.size_alloc, World.size_drew] at h2z)
        | (go_at_call 60; refine (HRW.out _).mono ?_; rintro e w3 ⟨rfl, hb3⟩; have h3c := bc hb3; have h3f := bf hb3; have h3z := hb3.size; try simp only [World.size_alloc, World.size_drew] at h3z)
        | (at_make; refine wpMake _ rfl _ _ 55 rfl w.heap.size 63 (.agg #[.string .empty, .int .i64 0, .int .i64 0]) 3 32 Try.underlying55 tab_info N rfl rfl (by omega) (by unfold maxLen; omega) (by simp; omega) ?_; intro w4 hown hb4; simp only [World.size_alloc] at hown; have HO := Lib.hid hown; have hb4z := hb4.size; have HB4 := Lib.hid hb4; clear hown))
      have hb4' : Below w.heap.size w w4 := (by repeat (first | exact brefl _ | assumption | refine balloc ?_ _ | refine bdrew ?_ _ | refine bdrew1 ?_ | refine bthen ?_ (by assumption) | refine Below.trans ?_ (by assumption) | (refine bset ?_ (by first | (simp; done) | (simp; omega)) _)))
      have hgb : w.heap.size ≤ w3.heap.size + 1 := by omega
      have c40 : w4.cell? ⟨w.heap.size, 0, none⟩ = some (.slice a n c) := by
        rw [HB4.out.cell (by simp; omega)]
        have l1 : w.heap.size < w1.heap.size := by omega
        have l2 : w.heap.size < w2.heap.size := by omega
        have l3 : ¬ w.heap.size = w3.heap.size := by omega
        simp [*]
      have c45 : w4.cell? ⟨w3.heap.size, 0, none⟩ = some (.slice (adv a c 12) (N * 16) (c - 12)) := by rw [HB4.out.cell (by simp)]; simp [*]
      have HBW := Lib.hid hb4'
      simp only [World.size_alloc] at hb4z
      have hgw : w3.heap.size + 1 < w4.heap.size := (HO.out.lt (w3.heap.size + 1) (by simp [Value.ownBlock])).2
      generalize hg5 : w3.heap.size = g5 at *
      clear h1c h2c h3c h1f h2f h3f hb1 hb2 hb3 hb4 hb4'
      have h05 : w.heap.size < g5 := by omega
      go_loopw [27] (TakeRel w bs w.heap.size a n c g5 (adv a c 12) (N * 16) (c - 12) (g5 + 1)) (fun i _ => N - (intOf i).toNat)
      case atStart => exact ⟨0, Nat.zero_le _, rfl, fun j hj => by omega, by rw [HCNT.out]; exact owns_eq HO.out (by rw [Nat.sub_zero]; exact made_blank N), c40, c45, HBW.out⟩
      case round =>
        obtain ⟨k, hk, rfl, hrows, hown, d0, d5, hbr⟩ := hrel
        rw [HCNT.out] at hk hown
        have HO5 := Lib.hid hown
        have HRW5 := Lib.hid hrows
        have HBR := Lib.hid hbr
        have hzr := hbr.size
        clear hown hrows hbr
        by_cases hlt : k < N
        · have h9 := fun W => cut_z (adv a c 12) (N * 16) (c - 12) (k * 16) 16 ((k : Int) * 16) 16 (by omega) rfl W (by omega) (by omega) (by omega)
          have HR1 := (HH.out.adv c 12 (by rw [bytesV_length, HL.out]; exact hn)).adv (c - 12) (k * 16) (by rw [List.length_drop, bytesV_length, HL.out]; omega)
          have HR2 := HR1.take 16
          rw [bytesV_drop, bytesV_drop, bytesV_take, List.drop_drop] at HR2
          have hA2 : ∃ A2, A2 = adv (adv a c 12) (c - 12) (k * 16) := ⟨_, rfl⟩
          obtain ⟨A2, hA2⟩ := hA2
          obtain ⟨C2, hC2⟩ : ∃ C2, C2 = c - 12 - k * 16 := ⟨_, rfl⟩
          rw [← hA2] at h9 HR2
          rw [← hC2] at h9
          have hC16 : 16 ≤ C2 := by omega
          have hC2m : C2 ≤ maxLen := by unfold maxLen; omega
          clear hA2 hC2 HR1
          have HRB := Lib.hid HR2
          have HRB2 := HRB
          have hrl : ((bs.drop (12 + k * 16)).take 16).length = 16 := by rw [List.length_take, List.length_drop, HL.out]; omega
          have hnum : ∀ j, j + 4 ≤ 16 → num ((bs.drop (12 + k * 16)).take 16) j 4 = num bs (12 + 16 * k + j) 4 := fun j hj => by
            rw [Nat.mul_comm 16 k]
            exact num_sub bs (12 + k * 16) 16 j hj
          have htag : ((bs.drop (12 + k * 16)).take 16).take 4 = tagAt bs k := by
            rw [List.take_take, tagAt, Nat.mul_comm 16 k]; rfl
          have htl : (tagAt bs k).length = 4 := by rw [← htag, List.length_take, hrl]; rfl
          have hRt : Has w A2 (bytesV (tagAt bs k)) := by
            have := HRB.out.take 4
            rw [bytesV_take, htag] at this
            exact this
          have h8 := fun W hw => u32_z A2 16 C2 8 8 rfl _ W hw hrl (by omega) hC16 hC2m
          have h12 := fun W hw => u32_z A2 16 C2 12 12 rfl _ W hw hrl (by omega) hC16 hC2m
          rw [hnum 8 (by omega)] at h8
          rw [hnum 12 (by omega)] at h12
          have h10 := fun W => cut_z A2 16 C2 0 4 0 4 rfl rfl W (by omega) hC16 hC2m
          rw [adv_zero, Nat.sub_zero] at h10
          have HC9 := Lib.hid h9
          have HC10 := Lib.hid h10
          have HU8 := Lib.hid h8
          have HU12 := Lib.hid h12
          have HT := Lib.hid hRt
          have HTL := Lib.hid htl
          have hA4 := num4_lt bs (12 + 16 * k + 8)
          have hL4 := num4_lt bs (12 + 16 * k + 12)
          have HAT := Lib.hid (show atAt bs k = num bs (12 + 16 * k + 8) 4 from rfl)
          have HLE := Lib.hid (show lenAt bs k = num bs (12 + 16 * k + 12) 4 from rfl)
          clear h9 h10 h8 h12 hRt htl HRB HR2 hrl hnum htag
          generalize num bs (12 + 16 * k + 8) 4 = at_ at *
          generalize num bs (12 + 16 * k + 12) 4 = le_ at *
          go_wp2_with (first | (go_at_call 50; (with_reducible refine (HC9.out _).mono ?_); rintro e w6 ⟨rfl, hb6⟩; have h6c := bc hb6; have h6f := bf hb6; have h6z := hb6.size; try simp only [World.size_alloc, World.size_drew] at h6z))
          obtain ⟨V, hV⟩ : ∃ V, V = w6.alloc (Obj.cells #[.slice A2 16 C2] 59) := ⟨_, rfl⟩
          have z8 : V.cell? ⟨w6.heap.size, 0, none⟩ = some (.slice A2 16 C2) := by rw [hV]; simp [hAC]
          have hbV : Below wr.heap.size wr V := by rw [hV]; exact balloc hb6 _
          have zz : w6.heap.size < V.heap.size := by rw [hV]; simp
          rw [← hV]
          have HV := Lib.hid (show Below w.heap.size w V from HBR.out.trans (hbV.mono hzr))
          have hzV := hbV.size
          have HBV := Lib.hid hbV
          clear hV h6c h6f hb6 h6z hbV
          generalize w6.heap.size = g8 at *
          have HTV := Lib.hid (HT.out.below HV.out)
          have HRV := Lib.hid ((HRB2.out).below HV.out)
          apply cutP (R := ∀ (g_ : Nat) (x_ : Nat → Value) (W_ : World), (fun g9 W9 => Below V.heap.size V W9 ∧ V.heap.size ≤ g9 ∧ g9 < W9.heap.size ∧ W9.cell? ⟨g9, 0, none⟩ = some (.string (str (tagAt bs k))) ∧ W9.cell? ⟨g9, 1, none⟩ = some (.int .i64 at_) ∧ W9.cell? ⟨g9, 2, none⟩ = some (.int .i64 le_)) g_ W_ → _)
          · intro hfin_
            refine wp_region_tree (.step 0 (.step 4 (.step 6 (.two 1 (.narrow (.two 2 (.narrow (.step 3 (.two 5 (.narrow (.two 7 (.narrow (.step 8 (.step 9 (.narrow (.step 10 .nil))))) 9 (.narrow (.step 7 (.narrow (.step 8 (.step 10 .nil))))))) 9 (.narrow (.step 5 (.narrow (.step 7 (.narrow (.step 8 (.step 10 .nil)))))))))) 9 (.narrow (.step 2 (.narrow (.step 3 (.step 5 (.narrow (.step 7 (.narrow (.step 8 (.step 10 .nil)))))))))))) 9 (.narrow (.step 1 (.narrow (.step 2 (.narrow (.step 3 (.step 5 (.narrow (.step 7 (.narrow (.step 8 (.step 10 .nil)))))))))))))))) (by kernel_rfl) (by kernel_rfl) (by kernel_rfl) (by kernel_rfl) (by intro _ _ d_ _ _ h_; cases d_ <;> first | exact h_ | (dsimp +zetaDelta only at h_ ⊢; exact h_)) (fun w' => ∃ p : Wld V [], w' = p.val) (wld_start _ _) ?_
            have hG_ := @wldC V
            (refine tree_quiet (by simp only [List.getElem?_toArray, List.getElem?_cons_succ, List.getElem?_cons_zero]; rfl) (by rfl) (by rfl) (fun K_ hK_ => ?_); go_big_quiet_op; refine hK_ _ ?_; clear hK_ K_)
            (refine tree_quiet (by simp only [List.getElem?_toArray, List.getElem?_cons_succ, List.getElem?_cons_zero]; rfl) (by rfl) (by rfl) (fun K_ hK_ => ?_); go_big_quiet_op; refine hK_ _ ?_; clear hK_ K_)
            (refine tree_quiet (by simp only [List.getElem?_toArray, List.getElem?_cons_succ, List.getElem?_cons_zero]; rfl) (by rfl) (by rfl) (fun K_ hK_ => ?_); go_big_quiet_op; refine hK_ _ ?_; clear hK_ K_)
            refine tree_two (by simp only [List.getElem?_toArray, List.getElem?_cons_succ, List.getElem?_cons_zero]; rfl) (by simp only [List.getElem?_toArray, List.getElem?_cons_succ, List.getElem?_cons_zero]; rfl) (by rfl) (by rfl) (fun K_ hK_ => ?_) (fun K_ hK_ => ?_)
            · have HK_ := Lib.hid hK_; clear hK_; go_wp2_with (first
              | (go_at_call 50; (with_reducible refine (HC10.out _).mono ?_); rintro e wa ⟨rfl, hba⟩; have hac := bc hba; have haf := bf hba; have haz := hba.size; try simp only [World.size_alloc, World.size_drew] at haz)
              | (go_at_call 62; refine (bytes_any _ _ _ (tagAt bs k) _ (HTV.out.below (by repeat (first | exact brefl _ | assumption | refine balloc ?_ _ | refine bdrew ?_ _ | refine bdrew1 ?_ | refine bthen ?_ (by assumption) | refine Below.trans ?_ (by assumption) | (refine bset ?_ (by first | (simp; done) | (simp; omega)) _)))) HTL.out (by omega)).mono ?_; rintro e wb ⟨ab, cb, rfl, hown, k1, k2, k3, hbb⟩; have hbc := bc hbb; have hbf := bf hbb; have hbz := hbb.size; (try simp only [World.size_alloc, World.size_drew] at hbz); have hsb := str_wld hown HTL.out [] (by simp); (try have hsb2 := str_wld hown HTL.out [V.heap.size] (by simp; omega)); (try have hsb3 := str_wld hown HTL.out [wa.heap.size] (by intro x hx; rw [List.mem_singleton] at hx; subst hx; simp only [World.size_alloc, World.size_drew]; omega)); clear hown k3)
              | (go_at_call 57; (with_reducible refine (HU8.out _ (HRV.out.below (by repeat (first | exact brefl _ | assumption | refine balloc ?_ _ | refine bdrew ?_ _ | refine bdrew1 ?_ | refine bthen ?_ (by assumption) | refine Below.trans ?_ (by assumption) | (refine bset ?_ (by first | (simp; done) | (simp; omega)) _))))).mono ?_); rintro e wc ⟨rfl, hbc⟩; have hcc := bc hbc; have hcf := bf hbc; have hcz := hbc.size; try simp only [World.size_alloc, World.size_drew] at hcz)
              | (go_at_call 57; (with_reducible refine (HU12.out _ (HRV.out.below (by repeat (first | exact brefl _ | assumption | refine balloc ?_ _ | refine bdrew ?_ _ | refine bdrew1 ?_ | refine bthen ?_ (by assumption) | refine Below.trans ?_ (by assumption) | (refine bset ?_ (by first | (simp; done) | (simp; omega)) _))))).mono ?_); rintro e wd ⟨rfl, hbd⟩; have hdc := bc hbd; have hdf := bf hbd; have hdz := hbd.size; try simp only [World.size_alloc, World.size_drew] at hdz)); refine HK_.out _ _ (wld_of (by repeat (first | exact same_below (brefl _) | exact same_realloc (by simp) | exact same_below (bdrew1 (brefl _)) | assumption | refine same_drew ?_ | refine same_then ?_ (by assumption) | refine same_alloc ?_ _ | (refine same_set ?_ (by first | (left; simp; done) | (right; simp; done) | (right; simp; omega)) _)))) ?_; clear HK_
              refine tree_move (by repeat (first | exact same_below (brefl _) | exact same_realloc (by simp) | exact same_below (bdrew1 (brefl _)) | assumption | refine same_drew ?_ | refine same_then ?_ (by assumption) | refine same_alloc ?_ _ | (refine same_set ?_ (by first | (left; simp; done) | (right; simp; done) | (right; simp; omega)) _))) ?_; clear hG_; intro hG_
              refine tree_two (by simp only [List.getElem?_toArray, List.getElem?_cons_succ, List.getElem?_cons_zero]; rfl) (by simp only [List.getElem?_toArray, List.getElem?_cons_succ, List.getElem?_cons_zero]; rfl) (by rfl) (by rfl) (fun K_ hK_ => ?_) (fun K_ hK_ => ?_)
              · have HK_ := Lib.hid hK_; clear hK_; go_wp2_with (first
              | (go_at_call 50; (with_reducible refine (HC10.out _).mono ?_); rintro e wa ⟨rfl, hba⟩; have hac := bc hba; have haf := bf hba; have haz := hba.size; try simp only [World.size_alloc, World.size_drew] at haz)
              | (go_at_call 62; refine (bytes_any _ _ _ (tagAt bs k) _ (HTV.out.below (by repeat (first | exact brefl _ | assumption | refine balloc ?_ _ | refine bdrew ?_ _ | refine bdrew1 ?_ | refine bthen ?_ (by assumption) | refine Below.trans ?_ (by assumption) | (refine bset ?_ (by first | (simp; done) | (simp; omega)) _)))) HTL.out (by omega)).mono ?_; rintro e wb ⟨ab, cb, rfl, hown, k1, k2, k3, hbb⟩; have hbc := bc hbb; have hbf := bf hbb; have hbz := hbb.size; (try simp only [World.size_alloc, World.size_drew] at hbz); have hsb := str_wld hown HTL.out [] (by simp); (try have hsb2 := str_wld hown HTL.out [V.heap.size] (by simp; omega)); (try have hsb3 := str_wld hown HTL.out [wa.heap.size] (by intro x hx; rw [List.mem_singleton] at hx; subst hx; simp only [World.size_alloc, World.size_drew]; omega)); clear hown k3)
              | (go_at_call 57; (with_reducible refine (HU8.out _ (HRV.out.below (by repeat (first | exact brefl _ | assumption | refine balloc ?_ _ | refine bdrew ?_ _ | refine bdrew1 ?_ | refine bthen ?_ (by assumption) | refine Below.trans ?_ (by assumption) | (refine bset ?_ (by first | (simp; done) | (simp; omega)) _))))).mono ?_); rintro e wc ⟨rfl, hbc⟩; have hcc := bc hbc; have hcf := bf hbc; have hcz := hbc.size; try simp only [World.size_alloc, World.size_drew] at hcz)
              | (go_at_call 57; (with_reducible refine (HU12.out _ (HRV.out.below (by repeat (first | exact brefl _ | assumption | refine balloc ?_ _ | refine bdrew ?_ _ | refine bdrew1 ?_ | refine bthen ?_ (by assumption) | refine Below.trans ?_ (by assumption) | (refine bset ?_ (by first | (simp; done) | (simp; omega)) _))))).mono ?_); rintro e wd ⟨rfl, hbd⟩; have hdc := bc hbd; have hdf := bf hbd; have hdz := hbd.size; try simp only [World.size_alloc, World.size_drew] at hdz)); refine HK_.out _ _ (wld_of (by repeat (first | exact same_below (brefl _) | exact same_realloc (by simp) | exact same_below (bdrew1 (brefl _)) | assumption | refine same_drew ?_ | refine same_then ?_ (by assumption) | refine same_alloc ?_ _ | (refine same_set ?_ (by first | (left; simp; done) | (right; simp; done) | (right; simp; omega)) _)))) ?_; clear HK_
                refine tree_move (by repeat (first | exact same_below (brefl _) | exact same_realloc (by simp) | exact same_below (bdrew1 (brefl _)) | assumption | refine same_drew ?_ | refine same_then ?_ (by assumption) | refine same_alloc ?_ _ | (refine same_set ?_ (by first | (left; simp; done) | (right; simp; done) | (right; simp; omega)) _))) ?_; clear hG_; intro hG_
                (refine tree_quiet (by simp only [List.getElem?_toArray, List.getElem?_cons_succ, List.getElem?_cons_zero]; rfl) (by rfl) (by rfl) (fun K_ hK_ => ?_); go_big_quiet_op; refine hK_ _ ?_; clear hK_ K_)
                refine tree_two (by simp only [List.getElem?_toArray, List.getElem?_cons_succ, List.getElem?_cons_zero]; rfl) (by simp only [List.getElem?_toArray, List.getElem?_cons_succ, List.getElem?_cons_zero]; rfl) (by rfl) (by rfl) (fun K_ hK_ => ?_) (fun K_ hK_ => ?_)
                · have HK_ := Lib.hid hK_; clear hK_; go_wp2_with (first
              | (go_at_call 50; (with_reducible refine (HC10.out _).mono ?_); rintro e wa ⟨rfl, hba⟩; have hac := bc hba; have haf := bf hba; have haz := hba.size; try simp only [World.size_alloc, World.size_drew] at haz)
              | (go_at_call 62; refine (bytes_any _ _ _ (tagAt bs k) _ (HTV.out.below (by repeat (first | exact brefl _ | assumption | refine balloc ?_ _ | refine bdrew ?_ _ | refine bdrew1 ?_ | refine bthen ?_ (by assumption) | refine Below.trans ?_ (by assumption) | (refine bset ?_ (by first | (simp; done) | (simp; omega)) _)))) HTL.out (by omega)).mono ?_; rintro e wb ⟨ab, cb, rfl, hown, k1, k2, k3, hbb⟩; have hbc := bc hbb; have hbf := bf hbb; have hbz := hbb.size; (try simp only [World.size_alloc, World.size_drew] at hbz); have hsb := str_wld hown HTL.out [] (by simp); (try have hsb2 := str_wld hown HTL.out [V.heap.size] (by simp; omega)); (try have hsb3 := str_wld hown HTL.out [wa.heap.size] (by intro x hx; rw [List.mem_singleton] at hx; subst hx; simp only [World.size_alloc, World.size_drew]; omega)); clear hown k3)
              | (go_at_call 57; (with_reducible refine (HU8.out _ (HRV.out.below (by repeat (first | exact brefl _ | assumption | refine balloc ?_ _ | refine bdrew ?_ _ | refine bdrew1 ?_ | refine bthen ?_ (by assumption) | refine Below.trans ?_ (by assumption) | (refine bset ?_ (by first | (simp; done) | (simp; omega)) _))))).mono ?_); rintro e wc ⟨rfl, hbc⟩; have hcc := bc hbc; have hcf := bf hbc; have hcz := hbc.size; try simp only [World.size_alloc, World.size_drew] at hcz)
              | (go_at_call 57; (with_reducible refine (HU12.out _ (HRV.out.below (by repeat (first | exact brefl _ | assumption | refine balloc ?_ _ | refine bdrew ?_ _ | refine bdrew1 ?_ | refine bthen ?_ (by assumption) | refine Below.trans ?_ (by assumption) | (refine bset ?_ (by first | (simp; done) | (simp; omega)) _))))).mono ?_); rintro e wd ⟨rfl, hbd⟩; have hdc := bc hbd; have hdf := bf hbd; have hdz := hbd.size; try simp only [World.size_alloc, World.size_drew] at hdz)); refine HK_.out _ _ (wld_of (by repeat (first | exact same_below (brefl _) | exact same_realloc (by simp) | exact same_below (bdrew1 (brefl _)) | assumption | refine same_drew ?_ | refine same_then ?_ (by assumption) | refine same_alloc ?_ _ | (refine same_set ?_ (by first | (left; simp; done) | (right; simp; done) | (right; simp; omega)) _)))) ?_; clear HK_
                  refine tree_move (by repeat (first | exact same_below (brefl _) | exact same_realloc (by simp) | exact same_below (bdrew1 (brefl _)) | assumption | refine same_drew ?_ | refine same_then ?_ (by assumption) | refine same_alloc ?_ _ | (refine same_set ?_ (by first | (left; simp; done) | (right; simp; done) | (right; simp; omega)) _))) ?_; clear hG_; intro hG_
                  refine tree_two (by simp only [List.getElem?_toArray, List.getElem?_cons_succ, List.getElem?_cons_zero]; rfl) (by simp only [List.getElem?_toArray, List.getElem?_cons_succ, List.getElem?_cons_zero]; rfl) (by rfl) (by rfl) (fun K_ hK_ => ?_) (fun K_ hK_ => ?_)
                  · have HK_ := Lib.hid hK_; clear hK_; go_wp2_with (first
              | (go_at_call 50; (with_reducible refine (HC10.out _).mono ?_); rintro e wa ⟨rfl, hba⟩; have hac := bc hba; have haf := bf hba; have haz := hba.size; try simp only [World.size_alloc, World.size_drew] at haz)
              | (go_at_call 62; refine (bytes_any _ _ _ (tagAt bs k) _ (HTV.out.below (by repeat (first | exact brefl _ | assumption | refine balloc ?_ _ | refine bdrew ?_ _ | refine bdrew1 ?_ | refine bthen ?_ (by assumption) | refine Below.trans ?_ (by assumption) | (refine bset ?_ (by first | (simp; done) | (simp; omega)) _)))) HTL.out (by omega)).mono ?_; rintro e wb ⟨ab, cb, rfl, hown, k1, k2, k3, hbb⟩; have hbc := bc hbb; have hbf := bf hbb; have hbz := hbb.size; (try simp only [World.size_alloc, World.size_drew] at hbz); have hsb := str_wld hown HTL.out [] (by simp); (try have hsb2 := str_wld hown HTL.out [V.heap.size] (by simp; omega)); (try have hsb3 := str_wld hown HTL.out [wa.heap.size] (by intro x hx; rw [List.mem_singleton] at hx; subst hx; simp only [World.size_alloc, World.size_drew]; omega)); clear hown k3)
              | (go_at_call 57; (with_reducible refine (HU8.out _ (HRV.out.below (by repeat (first | exact brefl _ | assumption | refine balloc ?_ _ | refine bdrew ?_ _ | refine bdrew1 ?_ | refine bthen ?_ (by assumption) | refine Below.trans ?_ (by assumption) | (refine bset ?_ (by first | (simp; done) | (simp; omega)) _))))).mono ?_); rintro e wc ⟨rfl, hbc⟩; have hcc := bc hbc; have hcf := bf hbc; have hcz := hbc.size; try simp only [World.size_alloc, World.size_drew] at hcz)
              | (go_at_call 57; (with_reducible refine (HU12.out _ (HRV.out.below (by repeat (first | exact brefl _ | assumption | refine balloc ?_ _ | refine bdrew ?_ _ | refine bdrew1 ?_ | refine bthen ?_ (by assumption) | refine Below.trans ?_ (by assumption) | (refine bset ?_ (by first | (simp; done) | (simp; omega)) _))))).mono ?_); rintro e wd ⟨rfl, hbd⟩; have hdc := bc hbd; have hdf := bf hbd; have hdz := hbd.size; try simp only [World.size_alloc, World.size_drew] at hdz)); refine HK_.out _ _ (wld_of (by repeat (first | exact same_below (brefl _) | exact same_realloc (by simp) | exact same_below (bdrew1 (brefl _)) | assumption | refine same_drew ?_ | refine same_then ?_ (by assumption) | refine same_alloc ?_ _ | (refine same_set ?_ (by first | (left; simp; done) | (right; simp; done) | (right; simp; omega)) _)))) ?_; clear HK_
                    refine tree_move (by repeat (first | exact same_below (brefl _) | exact same_realloc (by simp) | exact same_below (bdrew1 (brefl _)) | assumption | refine same_drew ?_ | refine same_then ?_ (by assumption) | refine same_alloc ?_ _ | (refine same_set ?_ (by first | (left; simp; done) | (right; simp; done) | (right; simp; omega)) _))) ?_; clear hG_; intro hG_
                    (refine tree_quiet (by simp only [List.getElem?_toArray, List.getElem?_cons_succ, List.getElem?_cons_zero]; rfl) (by rfl) (by rfl) (fun K_ hK_ => ?_); go_big_quiet_op; refine hK_ _ ?_; clear hK_ K_)
                    (refine tree_run (by simp only [List.getElem?_toArray, List.getElem?_cons_succ, List.getElem?_cons_zero]; rfl) (by rfl) (by rfl) (fun K_ hK_ => ?_); have HK_ := Lib.hid hK_; clear hK_; go_wp2_with (first
              | (go_at_call 50; (with_reducible refine (HC10.out _).mono ?_); rintro e wa ⟨rfl, hba⟩; have hac := bc hba; have haf := bf hba; have haz := hba.size; try simp only [World.size_alloc, World.size_drew] at haz)
              | (go_at_call 62; refine (bytes_any _ _ _ (tagAt bs k) _ (HTV.out.below (by repeat (first | exact brefl _ | assumption | refine balloc ?_ _ | refine bdrew ?_ _ | refine bdrew1 ?_ | refine bthen ?_ (by assumption) | refine Below.trans ?_ (by assumption) | (refine bset ?_ (by first | (simp; done) | (simp; omega)) _)))) HTL.out (by omega)).mono ?_; rintro e wb ⟨ab, cb, rfl, hown, k1, k2, k3, hbb⟩; have hbc := bc hbb; have hbf := bf hbb; have hbz := hbb.size; (try simp only [World.size_alloc, World.size_drew] at hbz); have hsb := str_wld hown HTL.out [] (by simp); (try have hsb2 := str_wld hown HTL.out [V.heap.size] (by simp; omega)); (try have hsb3 := str_wld hown HTL.out [wa.heap.size] (by intro x hx; rw [List.mem_singleton] at hx; subst hx; simp only [World.size_alloc, World.size_drew]; omega)); clear hown k3)
              | (go_at_call 57; (with_reducible refine (HU8.out _ (HRV.out.below (by repeat (first | exact brefl _ | assumption | refine balloc ?_ _ | refine bdrew ?_ _ | refine bdrew1 ?_ | refine bthen ?_ (by assumption) | refine Below.trans ?_ (by assumption) | (refine bset ?_ (by first | (simp; done) | (simp; omega)) _))))).mono ?_); rintro e wc ⟨rfl, hbc⟩; have hcc := bc hbc; have hcf := bf hbc; have hcz := hbc.size; try simp only [World.size_alloc, World.size_drew] at hcz)
              | (go_at_call 57; (with_reducible refine (HU12.out _ (HRV.out.below (by repeat (first | exact brefl _ | assumption | refine balloc ?_ _ | refine bdrew ?_ _ | refine bdrew1 ?_ | refine bthen ?_ (by assumption) | refine Below.trans ?_ (by assumption) | (refine bset ?_ (by first | (simp; done) | (simp; omega)) _))))).mono ?_); rintro e wd ⟨rfl, hbd⟩; have hdc := bc hbd; have hdf := bf hbd; have hdz := hbd.size; try simp only [World.size_alloc, World.size_drew] at hdz)); refine HK_.out _ _ (wld_of (by repeat (first | exact same_below (brefl _) | exact same_realloc (by simp) | exact same_below (bdrew1 (brefl _)) | assumption | refine same_drew ?_ | refine same_then ?_ (by assumption) | refine same_alloc ?_ _ | (refine same_set ?_ (by first | (left; simp; done) | (right; simp; done) | (right; simp; omega)) _)))) ?_; clear HK_)
                    first | (refine tree_move_alloc (by repeat (first | exact same_below (brefl _) | exact same_realloc (by simp) | exact same_below (bdrew1 (brefl _)) | assumption | refine same_drew ?_ | refine same_then ?_ (by assumption) | refine same_alloc ?_ _ | (refine same_set ?_ (by first | (left; simp; done) | (right; simp; done) | (right; simp; omega)) _))) (by simp only [World.size_alloc, World.size_drew] at *; omega) ?_; clear hG_; intro hG_) | (refine tree_move_alloc_drew (by repeat (first | exact same_below (brefl _) | exact same_realloc (by simp) | exact same_below (bdrew1 (brefl _)) | assumption | refine same_drew ?_ | refine same_then ?_ (by assumption) | refine same_alloc ?_ _ | (refine same_set ?_ (by first | (left; simp; done) | (right; simp; done) | (right; simp; omega)) _))) (by simp only [World.size_alloc, World.size_drew] at *; omega) ?_; clear hG_; intro hG_)
                    (refine tree_run (by simp only [List.getElem?_toArray, List.getElem?_cons_succ, List.getElem?_cons_zero]; rfl) (by rfl) (by rfl) (fun K_ hK_ => ?_); have HK_ := Lib.hid hK_; clear hK_; go_wp2_with (first
              | (go_at_call 50; (with_reducible refine (HC10.out _).mono ?_); rintro e wa ⟨rfl, hba⟩; have hac := bc hba; have haf := bf hba; have haz := hba.size; try simp only [World.size_alloc, World.size_drew] at haz)
              | (go_at_call 62; refine (bytes_any _ _ _ (tagAt bs k) _ (HTV.out.below (by repeat (first | exact brefl _ | assumption | refine balloc ?_ _ | refine bdrew ?_ _ | refine bdrew1 ?_ | refine bthen ?_ (by assumption) | refine Below.trans ?_ (by assumption) | (refine bset ?_ (by first | (simp; done) | (simp; omega)) _)))) HTL.out (by omega)).mono ?_; rintro e wb ⟨ab, cb, rfl, hown, k1, k2, k3, hbb⟩; have hbc := bc hbb; have hbf := bf hbb; have hbz := hbb.size; (try simp only [World.size_alloc, World.size_drew] at hbz); have hsb := str_wld hown HTL.out [] (by simp); (try have hsb2 := str_wld hown HTL.out [V.heap.size] (by simp; omega)); (try have hsb3 := str_wld hown HTL.out [wa.heap.size] (by intro x hx; rw [List.mem_singleton] at hx; subst hx; simp only [World.size_alloc, World.size_drew]; omega)); clear hown k3)
              | (go_at_call 57; (with_reducible refine (HU8.out _ (HRV.out.below (by repeat (first | exact brefl _ | assumption | refine balloc ?_ _ | refine bdrew ?_ _ | refine bdrew1 ?_ | refine bthen ?_ (by assumption) | refine Below.trans ?_ (by assumption) | (refine bset ?_ (by first | (simp; done) | (simp; omega)) _))))).mono ?_); rintro e wc ⟨rfl, hbc⟩; have hcc := bc hbc; have hcf := bf hbc; have hcz := hbc.size; try simp only [World.size_alloc, World.size_drew] at hcz)
              | (go_at_call 57; (with_reducible refine (HU12.out _ (HRV.out.below (by repeat (first | exact brefl _ | assumption | refine balloc ?_ _ | refine bdrew ?_ _ | refine bdrew1 ?_ | refine bthen ?_ (by assumption) | refine Below.trans ?_ (by assumption) | (refine bset ?_ (by first | (simp; done) | (simp; omega)) _))))).mono ?_); rintro e wd ⟨rfl, hbd⟩; have hdc := bc hbd; have hdf := bf hbd; have hdz := hbd.size; try simp only [World.size_alloc, World.size_drew] at hdz)); refine HK_.out _ _ (wld_of (by repeat (first | exact same_below (brefl _) | exact same_realloc (by simp) | exact same_below (bdrew1 (brefl _)) | assumption | refine same_drew ?_ | refine same_then ?_ (by assumption) | refine same_alloc ?_ _ | (refine same_set ?_ (by first | (left; simp; done) | (right; simp; done) | (right; simp; omega)) _)))) ?_; clear HK_)
                    refine tree_nil ?_
                    refine leaf_any 9 [36] (fun g9 W9 => Below V.heap.size V W9 ∧ V.heap.size ≤ g9 ∧ g9 < W9.heap.size ∧ W9.cell? ⟨g9, 0, none⟩ = some (.string (str (tagAt bs k))) ∧ W9.cell? ⟨g9, 1, none⟩ = some (.int .i64 at_) ∧ W9.cell? ⟨g9, 2, none⟩ = some (.int .i64 le_)) _ (by rfl) (by first | (simp only [blank, List.setIfInBounds_toArray, List.set_cons_succ, List.set_cons_zero]; rfl) | simp only [blank, List.setIfInBounds_toArray, List.set_cons_succ, List.set_cons_zero]) (hfin_ ()) ?_
                    (refine ⟨(by repeat (first | exact brefl _ | assumption | refine balloc ?_ _ | refine bdrew ?_ _ | refine bdrew1 ?_ | refine bthen ?_ (by assumption) | refine Below.trans ?_ (by assumption) | (refine bset ?_ (by first | (simp; done) | (simp; omega)) _))), ?_, ?_, ?_, ?_, ?_⟩ <;> first | omega | (simp only [World.size_setCell, World.size_alloc, World.size_drew]; omega) | (simp [go_sem, ↓IntWalk.iteOmega, *]; done))
                  · have HK_ := Lib.hid hK_; clear hK_; go_wp2_with (first
              | (go_at_call 50; (with_reducible refine (HC10.out _).mono ?_); rintro e wa ⟨rfl, hba⟩; have hac := bc hba; have haf := bf hba; have haz := hba.size; try simp only [World.size_alloc, World.size_drew] at haz)
              | (go_at_call 62; refine (bytes_any _ _ _ (tagAt bs k) _ (HTV.out.below (by repeat (first | exact brefl _ | assumption | refine balloc ?_ _ | refine bdrew ?_ _ | refine bdrew1 ?_ | refine bthen ?_ (by assumption) | refine Below.trans ?_ (by assumption) | (refine bset ?_ (by first | (simp; done) | (simp; omega)) _)))) HTL.out (by omega)).mono ?_; rintro e wb ⟨ab, cb, rfl, hown, k1, k2, k3, hbb⟩; have hbc := bc hbb; have hbf := bf hbb; have hbz := hbb.size; (try simp only [World.size_alloc, World.size_drew] at hbz); have hsb := str_wld hown HTL.out [] (by simp); (try have hsb2 := str_wld hown HTL.out [V.heap.size] (by simp; omega)); (try have hsb3 := str_wld hown HTL.out [wa.heap.size] (by intro x hx; rw [List.mem_singleton] at hx; subst hx; simp only [World.size_alloc, World.size_drew]; omega)); clear hown k3)
              | (go_at_call 57; (with_reducible refine (HU8.out _ (HRV.out.below (by repeat (first | exact brefl _ | assumption | refine balloc ?_ _ | refine bdrew ?_ _ | refine bdrew1 ?_ | refine bthen ?_ (by assumption) | refine Below.trans ?_ (by assumption) | (refine bset ?_ (by first | (simp; done) | (simp; omega)) _))))).mono ?_); rintro e wc ⟨rfl, hbc⟩; have hcc := bc hbc; have hcf := bf hbc; have hcz := hbc.size; try simp only [World.size_alloc, World.size_drew] at hcz)
              | (go_at_call 57; (with_reducible refine (HU12.out _ (HRV.out.below (by repeat (first | exact brefl _ | assumption | refine balloc ?_ _ | refine bdrew ?_ _ | refine bdrew1 ?_ | refine bthen ?_ (by assumption) | refine Below.trans ?_ (by assumption) | (refine bset ?_ (by first | (simp; done) | (simp; omega)) _))))).mono ?_); rintro e wd ⟨rfl, hbd⟩; have hdc := bc hbd; have hdf := bf hbd; have hdz := hbd.size; try simp only [World.size_alloc, World.size_drew] at hdz)); refine HK_.out _ _ (wld_of (by repeat (first | exact same_below (brefl _) | exact same_realloc (by simp) | exact same_below (bdrew1 (brefl _)) | assumption | refine same_drew ?_ | refine same_then ?_ (by assumption) | refine same_alloc ?_ _ | (refine same_set ?_ (by first | (left; simp; done) | (right; simp; done) | (right; simp; omega)) _)))) ?_; clear HK_
                    first | (refine tree_move_alloc (by repeat (first | exact same_below (brefl _) | exact same_realloc (by simp) | exact same_below (bdrew1 (brefl _)) | assumption | refine same_drew ?_ | refine same_then ?_ (by assumption) | refine same_alloc ?_ _ | (refine same_set ?_ (by first | (left; simp; done) | (right; simp; done) | (right; simp; omega)) _))) (by simp only [World.size_alloc, World.size_drew] at *; omega) ?_; clear hG_; intro hG_) | (refine tree_move_alloc_drew (by repeat (first | exact same_below (brefl _) | exact same_realloc (by simp) | exact same_below (bdrew1 (brefl _)) | assumption | refine same_drew ?_ | refine same_then ?_ (by assumption) | refine same_alloc ?_ _ | (refine same_set ?_ (by first | (left; simp; done) | (right; simp; done) | (right; simp; omega)) _))) (by simp only [World.size_alloc, World.size_drew] at *; omega) ?_; clear hG_; intro hG_)
                    (refine tree_run (by simp only [List.getElem?_toArray, List.getElem?_cons_succ, List.getElem?_cons_zero]; rfl) (by rfl) (by rfl) (fun K_ hK_ => ?_); have HK_ := Lib.hid hK_; clear hK_; go_wp2_with (first
              | (go_at_call 50; (with_reducible refine (HC10.out _).mono ?_); rintro e wa ⟨rfl, hba⟩; have hac := bc hba; have haf := bf hba; have haz := hba.size; try simp only [World.size_alloc, World.size_drew] at haz)
              | (go_at_call 62; refine (bytes_any _ _ _ (tagAt bs k) _ (HTV.out.below (by repeat (first | exact brefl _ | assumption | refine balloc ?_ _ | refine bdrew ?_ _ | refine bdrew1 ?_ | refine bthen ?_ (by assumption) | refine Below.trans ?_ (by assumption) | (refine bset ?_ (by first | (simp; done) | (simp; omega)) _)))) HTL.out (by omega)).mono ?_; rintro e wb ⟨ab, cb, rfl, hown, k1, k2, k3, hbb⟩; have hbc := bc hbb; have hbf := bf hbb; have hbz := hbb.size; (try simp only [World.size_alloc, World.size_drew] at hbz); have hsb := str_wld hown HTL.out [] (by simp); (try have hsb2 := str_wld hown HTL.out [V.heap.size] (by simp; omega)); (try have hsb3 := str_wld hown HTL.out [wa.heap.size] (by intro x hx; rw [List.mem_singleton] at hx; subst hx; simp only [World.size_alloc, World.size_drew]; omega)); clear hown k3)
              | (go_at_call 57; (with_reducible refine (HU8.out _ (HRV.out.below (by repeat (first | exact brefl _ | assumption | refine balloc ?_ _ | refine bdrew ?_ _ | refine bdrew1 ?_ | refine bthen ?_ (by assumption) | refine Below.trans ?_ (by assumption) | (refine bset ?_ (by first | (simp; done) | (simp; omega)) _))))).mono ?_); rintro e wc ⟨rfl, hbc⟩; have hcc := bc hbc; have hcf := bf hbc; have hcz := hbc.size; try simp only [World.size_alloc, World.size_drew] at hcz)
              | (go_at_call 57; (with_reducible refine (HU12.out _ (HRV.out.below (by repeat (first | exact brefl _ | assumption | refine balloc ?_ _ | refine bdrew ?_ _ | refine bdrew1 ?_ | refine bthen ?_ (by assumption) | refine Below.trans ?_ (by assumption) | (refine bset ?_ (by first | (simp; done) | (simp; omega)) _))))).mono ?_); rintro e wd ⟨rfl, hbd⟩; have hdc := bc hbd; have hdf := bf hbd; have hdz := hbd.size; try simp only [World.size_alloc, World.size_drew] at hdz)); refine HK_.out _ _ (wld_of (by repeat (first | exact same_below (brefl _) | exact same_realloc (by simp) | exact same_below (bdrew1 (brefl _)) | assumption | refine same_drew ?_ | refine same_then ?_ (by assumption) | refine same_alloc ?_ _ | (refine same_set ?_ (by first | (left; simp; done) | (right; simp; done) | (right; simp; omega)) _)))) ?_; clear HK_)
                    refine tree_move (by repeat (first | exact same_below (brefl _) | exact same_realloc (by simp) | exact same_below (bdrew1 (brefl _)) | assumption | refine same_drew ?_ | refine same_then ?_ (by assumption) | refine same_alloc ?_ _ | (refine same_set ?_ (by first | (left; simp; done) | (right; simp; done) | (right; simp; omega)) _))) ?_; clear hG_; intro hG_
                    (refine tree_quiet (by simp only [List.getElem?_toArray, List.getElem?_cons_succ, List.getElem?_cons_zero]; rfl) (by rfl) (by rfl) (fun K_ hK_ => ?_); go_big_quiet_op; refine hK_ _ ?_; clear hK_ K_)
                    (refine tree_run (by simp only [List.getElem?_toArray, List.getElem?_cons_succ, List.getElem?_cons_zero]; rfl) (by rfl) (by rfl) (fun K_ hK_ => ?_); have HK_ := Lib.hid hK_; clear hK_; go_wp2_with (first
              | (go_at_call 50; (with_reducible refine (HC10.out _).mono ?_); rintro e wa ⟨rfl, hba⟩; have hac := bc hba; have haf := bf hba; have haz := hba.size; try simp only [World.size_alloc, World.size_drew] at haz)
              | (go_at_call 62; refine (bytes_any _ _ _ (tagAt bs k) _ (HTV.out.below (by repeat (first | exact brefl _ | assumption | refine balloc ?_ _ | refine bdrew ?_ _ | refine bdrew1 ?_ | refine bthen ?_ (by assumption) | refine Below.trans ?_ (by assumption) | (refine bset ?_ (by first | (simp; done) | (simp; omega)) _)))) HTL.out (by omega)).mono ?_; rintro e wb ⟨ab, cb, rfl, hown, k1, k2, k3, hbb⟩; have hbc := bc hbb; have hbf := bf hbb; have hbz := hbb.size; (try simp only [World.size_alloc, World.size_drew] at hbz); have hsb := str_wld hown HTL.out [] (by simp); (try have hsb2 := str_wld hown HTL.out [V.heap.size] (by simp; omega)); (try have hsb3 := str_wld hown HTL.out [wa.heap.size] (by intro x hx; rw [List.mem_singleton] at hx; subst hx; simp only [World.size_alloc, World.size_drew]; omega)); clear hown k3)
              | (go_at_call 57; (with_reducible refine (HU8.out _ (HRV.out.below (by repeat (first | exact brefl _ | assumption | refine balloc ?_ _ | refine bdrew ?_ _ | refine bdrew1 ?_ | refine bthen ?_ (by assumption) | refine Below.trans ?_ (by assumption) | (refine bset ?_ (by first | (simp; done) | (simp; omega)) _))))).mono ?_); rintro e wc ⟨rfl, hbc⟩; have hcc := bc hbc; have hcf := bf hbc; have hcz := hbc.size; try simp only [World.size_alloc, World.size_drew] at hcz)
              | (go_at_call 57; (with_reducible refine (HU12.out _ (HRV.out.below (by repeat (first | exact brefl _ | assumption | refine balloc ?_ _ | refine bdrew ?_ _ | refine bdrew1 ?_ | refine bthen ?_ (by assumption) | refine Below.trans ?_ (by assumption) | (refine bset ?_ (by first | (simp; done) | (simp; omega)) _))))).mono ?_); rintro e wd ⟨rfl, hbd⟩; have hdc := bc hbd; have hdf := bf hbd; have hdz := hbd.size; try simp only [World.size_alloc, World.size_drew] at hdz)); refine HK_.out _ _ (wld_of (by repeat (first | exact same_below (brefl _) | exact same_realloc (by simp) | exact same_below (bdrew1 (brefl _)) | assumption | refine same_drew ?_ | refine same_then ?_ (by assumption) | refine same_alloc ?_ _ | (refine same_set ?_ (by first | (left; simp; done) | (right; simp; done) | (right; simp; omega)) _)))) ?_; clear HK_)
                    refine tree_nil ?_
                    refine leaf_any 9 [36] (fun g9 W9 => Below V.heap.size V W9 ∧ V.heap.size ≤ g9 ∧ g9 < W9.heap.size ∧ W9.cell? ⟨g9, 0, none⟩ = some (.string (str (tagAt bs k))) ∧ W9.cell? ⟨g9, 1, none⟩ = some (.int .i64 at_) ∧ W9.cell? ⟨g9, 2, none⟩ = some (.int .i64 le_)) _ (by rfl) (by first | (simp only [blank, List.setIfInBounds_toArray, List.set_cons_succ, List.set_cons_zero]; rfl) | simp only [blank, List.setIfInBounds_toArray, List.set_cons_succ, List.set_cons_zero]) (hfin_ ()) ?_
                    (refine ⟨(by repeat (first | exact brefl _ | assumption | refine balloc ?_ _ | refine bdrew ?_ _ | refine bdrew1 ?_ | refine bthen ?_ (by assumption) | refine Below.trans ?_ (by assumption) | (refine bset ?_ (by first | (simp; done) | (simp; omega)) _))), ?_, ?_, ?_, ?_, ?_⟩ <;> first | omega | (simp only [World.size_setCell, World.size_alloc, World.size_drew]; omega) | (simp [go_sem, ↓IntWalk.iteOmega, *]; done))
                · have HK_ := Lib.hid hK_; clear hK_; go_wp2_with (first
              | (go_at_call 50; (with_reducible refine (HC10.out _).mono ?_); rintro e wa ⟨rfl, hba⟩; have hac := bc hba; have haf := bf hba; have haz := hba.size; try simp only [World.size_alloc, World.size_drew] at haz)
              | (go_at_call 62; refine (bytes_any _ _ _ (tagAt bs k) _ (HTV.out.below (by repeat (first | exact brefl _ | assumption | refine balloc ?_ _ | refine bdrew ?_ _ | refine bdrew1 ?_ | refine bthen ?_ (by assumption) | refine Below.trans ?_ (by assumption) | (refine bset ?_ (by first | (simp; done) | (simp; omega)) _)))) HTL.out (by omega)).mono ?_; rintro e wb ⟨ab, cb, rfl, hown, k1, k2, k3, hbb⟩; have hbc := bc hbb; have hbf := bf hbb; have hbz := hbb.size; (try simp only [World.size_alloc, World.size_drew] at hbz); have hsb := str_wld hown HTL.out [] (by simp); (try have hsb2 := str_wld hown HTL.out [V.heap.size] (by simp; omega)); (try have hsb3 := str_wld hown HTL.out [wa.heap.size] (by intro x hx; rw [List.mem_singleton] at hx; subst hx; simp only [World.size_alloc, World.size_drew]; omega)); clear hown k3)
              | (go_at_call 57; (with_reducible refine (HU8.out _ (HRV.out.below (by repeat (first | exact brefl _ | assumption | refine balloc ?_ _ | refine bdrew ?_ _ | refine bdrew1 ?_ | refine bthen ?_ (by assumption) | refine Below.trans ?_ (by assumption) | (refine bset ?_ (by first | (simp; done) | (simp; omega)) _))))).mono ?_); rintro e wc ⟨rfl, hbc⟩; have hcc := bc hbc; have hcf := bf hbc; have hcz := hbc.size; try simp only [World.size_alloc, World.size_drew] at hcz)
              | (go_at_call 57; (with_reducible refine (HU12.out _ (HRV.out.below (by repeat (first | exact brefl _ | assumption | refine balloc ?_ _ | refine bdrew ?_ _ | refine bdrew1 ?_ | refine bthen ?_ (by assumption) | refine Below.trans ?_ (by assumption) | (refine bset ?_ (by first | (simp; done) | (simp; omega)) _))))).mono ?_); rintro e wd ⟨rfl, hbd⟩; have hdc := bc hbd; have hdf := bf hbd; have hdz := hbd.size; try simp only [World.size_alloc, World.size_drew] at hdz)); refine HK_.out _ _ (wld_of (by repeat (first | exact same_below (brefl _) | exact same_realloc (by simp) | exact same_below (bdrew1 (brefl _)) | assumption | refine same_drew ?_ | refine same_then ?_ (by assumption) | refine same_alloc ?_ _ | (refine same_set ?_ (by first | (left; simp; done) | (right; simp; done) | (right; simp; omega)) _)))) ?_; clear HK_
                  first | (refine tree_move_alloc (by repeat (first | exact same_below (brefl _) | exact same_realloc (by simp) | exact same_below (bdrew1 (brefl _)) | assumption | refine same_drew ?_ | refine same_then ?_ (by assumption) | refine same_alloc ?_ _ | (refine same_set ?_ (by first | (left; simp; done) | (right; simp; done) | (right; simp; omega)) _))) (by simp only [World.size_alloc, World.size_drew] at *; omega) ?_; clear hG_; intro hG_) | (refine tree_move_alloc_drew (by repeat (first | exact same_below (brefl _) | exact same_realloc (by simp) | exact same_below (bdrew1 (brefl _)) | assumption | refine same_drew ?_ | refine same_then ?_ (by assumption) | refine same_alloc ?_ _ | (refine same_set ?_ (by first | (left; simp; done) | (right; simp; done) | (right; simp; omega)) _))) (by simp only [World.size_alloc, World.size_drew] at *; omega) ?_; clear hG_; intro hG_)
                  (refine tree_run (by simp only [List.getElem?_toArray, List.getElem?_cons_succ, List.getElem?_cons_zero]; rfl) (by rfl) (by rfl) (fun K_ hK_ => ?_); have HK_ := Lib.hid hK_; clear hK_; go_wp2_with (first
              | (go_at_call 50; (with_reducible refine (HC10.out _).mono ?_); rintro e wa ⟨rfl, hba⟩; have hac := bc hba; have haf := bf hba; have haz := hba.size; try simp only [World.size_alloc, World.size_drew] at haz)
              | (go_at_call 62; refine (bytes_any _ _ _ (tagAt bs k) _ (HTV.out.below (by repeat (first | exact brefl _ | assumption | refine balloc ?_ _ | refine bdrew ?_ _ | refine bdrew1 ?_ | refine bthen ?_ (by assumption) | refine Below.trans ?_ (by assumption) | (refine bset ?_ (by first | (simp; done) | (simp; omega)) _)))) HTL.out (by omega)).mono ?_; rintro e wb ⟨ab, cb, rfl, hown, k1, k2, k3, hbb⟩; have hbc := bc hbb; have hbf := bf hbb; have hbz := hbb.size; (try simp only [World.size_alloc, World.size_drew] at hbz); have hsb := str_wld hown HTL.out [] (by simp); (try have hsb2 := str_wld hown HTL.out [V.heap.size] (by simp; omega)); (try have hsb3 := str_wld hown HTL.out [wa.heap.size] (by intro x hx; rw [List.mem_singleton] at hx; subst hx; simp only [World.size_alloc, World.size_drew]; omega)); clear hown k3)
              | (go_at_call 57; (with_reducible refine (HU8.out _ (HRV.out.below (by repeat (first | exact brefl _ | assumption | refine balloc ?_ _ | refine bdrew ?_ _ | refine bdrew1 ?_ | refine bthen ?_ (by assumption) | refine Below.trans ?_ (by assumption) | (refine bset ?_ (by first | (simp; done) | (simp; omega)) _))))).mono ?_); rintro e wc ⟨rfl, hbc⟩; have hcc := bc hbc; have hcf := bf hbc; have hcz := hbc.size; try simp only [World.size_alloc, World.size_drew] at hcz)
              | (go_at_call 57; (with_reducible refine (HU12.out _ (HRV.out.below (by repeat (first | exact brefl _ | assumption | refine balloc ?_ _ | refine bdrew ?_ _ | refine bdrew1 ?_ | refine bthen ?_ (by assumption) | refine Below.trans ?_ (by assumption) | (refine bset ?_ (by first | (simp; done) | (simp; omega)) _))))).mono ?_); rintro e wd ⟨rfl, hbd⟩; have hdc := bc hbd; have hdf := bf hbd; have hdz := hbd.size; try simp only [World.size_alloc, World.size_drew] at hdz)); refine HK_.out _ _ (wld_of (by repeat (first | exact same_below (brefl _) | exact same_realloc (by simp) | exact same_below (bdrew1 (brefl _)) | assumption | refine same_drew ?_ | refine same_then ?_ (by assumption) | refine same_alloc ?_ _ | (refine same_set ?_ (by first | (left; simp; done) | (right; simp; done) | (right; simp; omega)) _)))) ?_; clear HK_)
                  refine tree_move (by repeat (first | exact same_below (brefl _) | exact same_realloc (by simp) | exact same_below (bdrew1 (brefl _)) | assumption | refine same_drew ?_ | refine same_then ?_ (by assumption) | refine same_alloc ?_ _ | (refine same_set ?_ (by first | (left; simp; done) | (right; simp; done) | (right; simp; omega)) _))) ?_; clear hG_; intro hG_
                  (refine tree_run (by simp only [List.getElem?_toArray, List.getElem?_cons_succ, List.getElem?_cons_zero]; rfl) (by rfl) (by rfl) (fun K_ hK_ => ?_); have HK_ := Lib.hid hK_; clear hK_; go_wp2_with (first
              | (go_at_call 50; (with_reducible refine (HC10.out _).mono ?_); rintro e wa ⟨rfl, hba⟩; have hac := bc hba; have haf := bf hba; have haz := hba.size; try simp only [World.size_alloc, World.size_drew] at haz)
              | (go_at_call 62; refine (bytes_any _ _ _ (tagAt bs k) _ (HTV.out.below (by repeat (first | exact brefl _ | assumption | refine balloc ?_ _ | refine bdrew ?_ _ | refine bdrew1 ?_ | refine bthen ?_ (by assumption) | refine Below.trans ?_ (by assumption) | (refine bset ?_ (by first | (simp; done) | (simp; omega)) _)))) HTL.out (by omega)).mono ?_; rintro e wb ⟨ab, cb, rfl, hown, k1, k2, k3, hbb⟩; have hbc := bc hbb; have hbf := bf hbb; have hbz := hbb.size; (try simp only [World.size_alloc, World.size_drew] at hbz); have hsb := str_wld hown HTL.out [] (by simp); (try have hsb2 := str_wld hown HTL.out [V.heap.size] (by simp; omega)); (try have hsb3 := str_wld hown HTL.out [wa.heap.size] (by intro x hx; rw [List.mem_singleton] at hx; subst hx; simp only [World.size_alloc, World.size_drew]; omega)); clear hown k3)
              | (go_at_call 57; (with_reducible refine (HU8.out _ (HRV.out.below (by repeat (first | exact brefl _ | assumption | refine balloc ?_ _ | refine bdrew ?_ _ | refine bdrew1 ?_ | refine bthen ?_ (by assumption) | refine Below.trans ?_ (by assumption) | (refine bset ?_ (by first | (simp; done) | (simp; omega)) _))))).mono ?_); rintro e wc ⟨rfl, hbc⟩; have hcc := bc hbc; have hcf := bf hbc; have hcz := hbc.size; try simp only [World.size_alloc, World.size_drew] at hcz)
              | (go_at_call 57; (with_reducible refine (HU12.out _ (HRV.out.below (by repeat (first | exact brefl _ | assumption | refine balloc ?_ _ | refine bdrew ?_ _ | refine bdrew1 ?_ | refine bthen ?_ (by assumption) | refine Below.trans ?_ (by assumption) | (refine bset ?_ (by first | (simp; done) | (simp; omega)) _))))).mono ?_); rintro e wd ⟨rfl, hbd⟩; have hdc := bc hbd; have hdf := bf hbd; have hdz := hbd.size; try simp only [World.size_alloc, World.size_drew] at hdz)); refine HK_.out _ _ (wld_of (by repeat (first | exact same_below (brefl _) | exact same_realloc (by simp) | exact same_below (bdrew1 (brefl _)) | assumption | refine same_drew ?_ | refine same_then ?_ (by assumption) | refine same_alloc ?_ _ | (refine same_set ?_ (by first | (left; simp; done) | (right; simp; done) | (right; simp; omega)) _)))) ?_; clear HK_)
                  refine tree_move (by repeat (first | exact same_below (brefl _) | exact same_realloc (by simp) | exact same_below (bdrew1 (brefl _)) | assumption | refine same_drew ?_ | refine same_then ?_ (by assumption) | refine same_alloc ?_ _ | (refine same_set ?_ (by first | (left; simp; done) | (right; simp; done) | (right; simp; omega)) _))) ?_; clear hG_; intro hG_
                  (refine tree_quiet (by simp only [List.getElem?_toArray, List.getElem?_cons_succ, List.getElem?_cons_zero]; rfl) (by rfl) (by rfl) (fun K_ hK_ => ?_); go_big_quiet_op; refine hK_ _ ?_; clear hK_ K_)
                  (refine tree_run (by simp only [List.getElem?_toArray, List.getElem?_cons_succ, List.getElem?_cons_zero]; rfl) (by rfl) (by rfl) (fun K_ hK_ => ?_); have HK_ := Lib.hid hK_; clear hK_; go_wp2_with (first
              | (go_at_call 50; (with_reducible refine (HC10.out _).mono ?_); rintro e wa ⟨rfl, hba⟩; have hac := bc hba; have haf := bf hba; have haz := hba.size; try simp only [World.size_alloc, World.size_drew] at haz)
              | (go_at_call 62; refine (bytes_any _ _ _ (tagAt bs k) _ (HTV.out.below (by repeat (first | exact brefl _ | assumption | refine balloc ?_ _ | refine bdrew ?_ _ | refine bdrew1 ?_ | refine bthen ?_ (by assumption) | refine Below.trans ?_ (by assumption) | (refine bset ?_ (by first | (simp; done) | (simp; omega)) _)))) HTL.out (by omega)).mono ?_; rintro e wb ⟨ab, cb, rfl, hown, k1, k2, k3, hbb⟩; have hbc := bc hbb; have hbf := bf hbb; have hbz := hbb.size; (try simp only [World.size_alloc, World.size_drew] at hbz); have hsb := str_wld hown HTL.out [] (by simp); (try have hsb2 := str_wld hown HTL.out [V.heap.size] (by simp; omega)); (try have hsb3 := str_wld hown HTL.out [wa.heap.size] (by intro x hx; rw [List.mem_singleton] at hx; subst hx; simp only [World.size_alloc, World.size_drew]; omega)); clear hown k3)
              | (go_at_call 57; (with_reducible refine (HU8.out _ (HRV.out.below (by repeat (first | exact brefl _ | assumption | refine balloc ?_ _ | refine bdrew ?_ _ | refine bdrew1 ?_ | refine bthen ?_ (by assumption) | refine Below.trans ?_ (by assumption) | (refine bset ?_ (by first | (simp; done) | (simp; omega)) _))))).mono ?_); rintro e wc ⟨rfl, hbc⟩; have hcc := bc hbc; have hcf := bf hbc; have hcz := hbc.size; try simp only [World.size_alloc, World.size_drew] at hcz)
              | (go_at_call 57; (with_reducible refine (HU12.out _ (HRV.out.below (by repeat (first | exact brefl _ | assumption | refine balloc ?_ _ | refine bdrew ?_ _ | refine bdrew1 ?_ | refine bthen ?_ (by assumption) | refine Below.trans ?_ (by assumption) | (refine bset ?_ (by first | (simp; done) | (simp; omega)) _))))).mono ?_); rintro e wd ⟨rfl, hbd⟩; have hdc := bc hbd; have hdf := bf hbd; have hdz := hbd.size; try simp only [World.size_alloc, World.size_drew] at hdz)); refine HK_.out _ _ (wld_of (by repeat (first | exact same_below (brefl _) | exact same_realloc (by simp) | exact same_below (bdrew1 (brefl _)) | assumption | refine same_drew ?_ | refine same_then ?_ (by assumption) | refine same_alloc ?_ _ | (refine same_set ?_ (by first | (left; simp; done) | (right; simp; done) | (right; simp; omega)) _)))) ?_; clear HK_)
                  refine tree_nil ?_
                  refine leaf_any 9 [36] (fun g9 W9 => Below V.heap.size V W9 ∧ V.heap.size ≤ g9 ∧ g9 < W9.heap.size ∧ W9.cell? ⟨g9, 0, none⟩ = some (.string (str (tagAt bs k))) ∧ W9.cell? ⟨g9, 1, none⟩ = some (.int .i64 at_) ∧ W9.cell? ⟨g9, 2, none⟩ = some (.int .i64 le_)) _ (by rfl) (by first | (simp only [blank, List.setIfInBounds_toArray, List.set_cons_succ, List.set_cons_zero]; rfl) | simp only [blank, List.setIfInBounds_toArray, List.set_cons_succ, List.set_cons_zero]) (hfin_ ()) ?_
                  (refine ⟨(by repeat (first | exact brefl _ | assumption | refine balloc ?_ _ | refine bdrew ?_ _ | refine bdrew1 ?_ | refine bthen ?_ (by assumption) | refine Below.trans ?_ (by assumption) | (refine bset ?_ (by first | (simp; done) | (simp; omega)) _))), ?_, ?_, ?_, ?_, ?_⟩ <;> first | omega | (simp only [World.size_setCell, World.size_alloc, World.size_drew]; omega) | (simp [go_sem, ↓IntWalk.iteOmega, *]; done))
              · have HK_ := Lib.hid hK_; clear hK_; go_wp2_with (first
              | (go_at_call 50; (with_reducible refine (HC10.out _).mono ?_); rintro e wa ⟨rfl, hba⟩; have hac := bc hba; have haf := bf hba; have haz := hba.size; try simp only [World.size_alloc, World.size_drew] at haz)
              | (go_at_call 62; refine (bytes_any _ _ _ (tagAt bs k) _ (HTV.out.below (by repeat (first | exact brefl _ | assumption | refine balloc ?_ _ | refine bdrew ?_ _ | refine bdrew1 ?_ | refine bthen ?_ (by assumption) | refine Below.trans ?_ (by assumption) | (refine bset ?_ (by first | (simp; done) | (simp; omega)) _)))) HTL.out (by omega)).mono ?_; rintro e wb ⟨ab, cb, rfl, hown, k1, k2, k3, hbb⟩; have hbc := bc hbb; have hbf := bf hbb; have hbz := hbb.size; (try simp only [World.size_alloc, World.size_drew] at hbz); have hsb := str_wld hown HTL.out [] (by simp); (try have hsb2 := str_wld hown HTL.out [V.heap.size] (by simp; omega)); (try have hsb3 := str_wld hown HTL.out [wa.heap.size] (by intro x hx; rw [List.mem_singleton] at hx; subst hx; simp only [World.size_alloc, World.size_drew]; omega)); clear hown k3)
              | (go_at_call 57; (with_reducible refine (HU8.out _ (HRV.out.below (by repeat (first | exact brefl _ | assumption | refine balloc ?_ _ | refine bdrew ?_ _ | refine bdrew1 ?_ | refine bthen ?_ (by assumption) | refine Below.trans ?_ (by assumption) | (refine bset ?_ (by first | (simp; done) | (simp; omega)) _))))).mono ?_); rintro e wc ⟨rfl, hbc⟩; have hcc := bc hbc; have hcf := bf hbc; have hcz := hbc.size; try simp only [World.size_alloc, World.size_drew] at hcz)
              | (go_at_call 57; (with_reducible refine (HU12.out _ (HRV.out.below (by repeat (first | exact brefl _ | assumption | refine balloc ?_ _ | refine bdrew ?_ _ | refine bdrew1 ?_ | refine bthen ?_ (by assumption) | refine Below.trans ?_ (by assumption) | (refine bset ?_ (by first | (simp; done) | (simp; omega)) _))))).mono ?_); rintro e wd ⟨rfl, hbd⟩; have hdc := bc hbd; have hdf := bf hbd; have hdz := hbd.size; try simp only [World.size_alloc, World.size_drew] at hdz)); refine HK_.out _ _ (wld_of (by repeat (first | exact same_below (brefl _) | exact same_realloc (by simp) | exact same_below (bdrew1 (brefl _)) | assumption | refine same_drew ?_ | refine same_then ?_ (by assumption) | refine same_alloc ?_ _ | (refine same_set ?_ (by first | (left; simp; done) | (right; simp; done) | (right; simp; omega)) _)))) ?_; clear HK_
                first | (refine tree_move_alloc (by repeat (first | exact same_below (brefl _) | exact same_realloc (by simp) | exact same_below (bdrew1 (brefl _)) | assumption | refine same_drew ?_ | refine same_then ?_ (by assumption) | refine same_alloc ?_ _ | (refine same_set ?_ (by first | (left; simp; done) | (right; simp; done) | (right; simp; omega)) _))) (by simp only [World.size_alloc, World.size_drew] at *; omega) ?_; clear hG_; intro hG_) | (refine tree_move_alloc_drew (by repeat (first | exact same_below (brefl _) | exact same_realloc (by simp) | exact same_below (bdrew1 (brefl _)) | assumption | refine same_drew ?_ | refine same_then ?_ (by assumption) | refine same_alloc ?_ _ | (refine same_set ?_ (by first | (left; simp; done) | (right; simp; done) | (right; simp; omega)) _))) (by simp only [World.size_alloc, World.size_drew] at *; omega) ?_; clear hG_; intro hG_)
                (refine tree_run (by simp only [List.getElem?_toArray, List.getElem?_cons_succ, List.getElem?_cons_zero]; rfl) (by rfl) (by rfl) (fun K_ hK_ => ?_); have HK_ := Lib.hid hK_; clear hK_; go_wp2_with (first
              | (go_at_call 50; (with_reducible refine (HC10.out _).mono ?_); rintro e wa ⟨rfl, hba⟩; have hac := bc hba; have haf := bf hba; have haz := hba.size; try simp only [World.size_alloc, World.size_drew] at haz)
              | (go_at_call 62; refine (bytes_any _ _ _ (tagAt bs k) _ (HTV.out.below (by repeat (first | exact brefl _ | assumption | refine balloc ?_ _ | refine bdrew ?_ _ | refine bdrew1 ?_ | refine bthen ?_ (by assumption) | refine Below.trans ?_ (by assumption) | (refine bset ?_ (by first | (simp; done) | (simp; omega)) _)))) HTL.out (by omega)).mono ?_; rintro e wb ⟨ab, cb, rfl, hown, k1, k2, k3, hbb⟩; have hbc := bc hbb; have hbf := bf hbb; have hbz := hbb.size; (try simp only [World.size_alloc, World.size_drew] at hbz); have hsb := str_wld hown HTL.out [] (by simp); (try have hsb2 := str_wld hown HTL.out [V.heap.size] (by simp; omega)); (try have hsb3 := str_wld hown HTL.out [wa.heap.size] (by intro x hx; rw [List.mem_singleton] at hx; subst hx; simp only [World.size_alloc, World.size_drew]; omega)); clear hown k3)
              | (go_at_call 57; (with_reducible refine (HU8.out _ (HRV.out.below (by repeat (first | exact brefl _ | assumption | refine balloc ?_ _ | refine bdrew ?_ _ | refine bdrew1 ?_ | refine bthen ?_ (by assumption) | refine Below.trans ?_ (by assumption) | (refine bset ?_ (by first | (simp; done) | (simp; omega)) _))))).mono ?_); rintro e wc ⟨rfl, hbc⟩; have hcc := bc hbc; have hcf := bf hbc; have hcz := hbc.size; try simp only [World.size_alloc, World.size_drew] at hcz)
              | (go_at_call 57; (with_reducible refine (HU12.out _ (HRV.out.below (by repeat (first | exact brefl _ | assumption | refine balloc ?_ _ | refine bdrew ?_ _ | refine bdrew1 ?_ | refine bthen ?_ (by assumption) | refine Below.trans ?_ (by assumption) | (refine bset ?_ (by first | (simp; done) | (simp; omega)) _))))).mono ?_); rintro e wd ⟨rfl, hbd⟩; have hdc := bc hbd; have hdf := bf hbd; have hdz := hbd.size; try simp only [World.size_alloc, World.size_drew] at hdz)); refine HK_.out _ _ (wld_of (by repeat (first | exact same_below (brefl _) | exact same_realloc (by simp) | exact same_below (bdrew1 (brefl _)) | assumption | refine same_drew ?_ | refine same_then ?_ (by assumption) | refine same_alloc ?_ _ | (refine same_set ?_ (by first | (left; simp; done) | (right; simp; done) | (right; simp; omega)) _)))) ?_; clear HK_)
                refine tree_move (by repeat (first | exact same_below (brefl _) | exact same_realloc (by simp) | exact same_below (bdrew1 (brefl _)) | assumption | refine same_drew ?_ | refine same_then ?_ (by assumption) | refine same_alloc ?_ _ | (refine same_set ?_ (by first | (left; simp; done) | (right; simp; done) | (right; simp; omega)) _))) ?_; clear hG_; intro hG_
                (refine tree_quiet (by simp only [List.getElem?_toArray, List.getElem?_cons_succ, List.getElem?_cons_zero]; rfl) (by rfl) (by rfl) (fun K_ hK_ => ?_); go_big_quiet_op; refine hK_ _ ?_; clear hK_ K_)
                (refine tree_run (by simp only [List.getElem?_toArray, List.getElem?_cons_succ, List.getElem?_cons_zero]; rfl) (by rfl) (by rfl) (fun K_ hK_ => ?_); have HK_ := Lib.hid hK_; clear hK_; go_wp2_with (first
              | (go_at_call 50; (with_reducible refine (HC10.out _).mono ?_); rintro e wa ⟨rfl, hba⟩; have hac := bc hba; have haf := bf hba; have haz := hba.size; try simp only [World.size_alloc, World.size_drew] at haz)
              | (go_at_call 62; refine (bytes_any _ _ _ (tagAt bs k) _ (HTV.out.below (by repeat (first | exact brefl _ | assumption | refine balloc ?_ _ | refine bdrew ?_ _ | refine bdrew1 ?_ | refine bthen ?_ (by assumption) | refine Below.trans ?_ (by assumption) | (refine bset ?_ (by first | (simp; done) | (simp; omega)) _)))) HTL.out (by omega)).mono ?_; rintro e wb ⟨ab, cb, rfl, hown, k1, k2, k3, hbb⟩; have hbc := bc hbb; have hbf := bf hbb; have hbz := hbb.size; (try simp only [World.size_alloc, World.size_drew] at hbz); have hsb := str_wld hown HTL.out [] (by simp); (try have hsb2 := str_wld hown HTL.out [V.heap.size] (by simp; omega)); (try have hsb3 := str_wld hown HTL.out [wa.heap.size] (by intro x hx; rw [List.mem_singleton] at hx; subst hx; simp only [World.size_alloc, World.size_drew]; omega)); clear hown k3)
              | (go_at_call 57; (with_reducible refine (HU8.out _ (HRV.out.below (by repeat (first | exact brefl _ | assumption | refine balloc ?_ _ | refine bdrew ?_ _ | refine bdrew1 ?_ | refine bthen ?_ (by assumption) | refine Below.trans ?_ (by assumption) | (refine bset ?_ (by first | (simp; done) | (simp; omega)) _))))).mono ?_); rintro e wc ⟨rfl, hbc⟩; have hcc := bc hbc; have hcf := bf hbc; have hcz := hbc.size; try simp only [World.size_alloc, World.size_drew] at hcz)
              | (go_at_call 57; (with_reducible refine (HU12.out _ (HRV.out.below (by repeat (first | exact brefl _ | assumption | refine balloc ?_ _ | refine bdrew ?_ _ | refine bdrew1 ?_ | refine bthen ?_ (by assumption) | refine Below.trans ?_ (by assumption) | (refine bset ?_ (by first | (simp; done) | (simp; omega)) _))))).mono ?_); rintro e wd ⟨rfl, hbd⟩; have hdc := bc hbd; have hdf := bf hbd; have hdz := hbd.size; try simp only [World.size_alloc, World.size_drew] at hdz)); refine HK_.out _ _ (wld_of (by repeat (first | exact same_below (brefl _) | exact same_realloc (by simp) | exact same_below (bdrew1 (brefl _)) | assumption | refine same_drew ?_ | refine same_then ?_ (by assumption) | refine same_alloc ?_ _ | (refine same_set ?_ (by first | (left; simp; done) | (right; simp; done) | (right; simp; omega)) _)))) ?_; clear HK_)
                refine tree_move (by repeat (first | exact same_below (brefl _) | exact same_realloc (by simp) | exact same_below (bdrew1 (brefl _)) | assumption | refine same_drew ?_ | refine same_then ?_ (by assumption) | refine same_alloc ?_ _ | (refine same_set ?_ (by first | (left; simp; done) | (right; simp; done) | (right; simp; omega)) _))) ?_; clear hG_; intro hG_
                (refine tree_run (by simp only [List.getElem?_toArray, List.getElem?_cons_succ, List.getElem?_cons_zero]; rfl) (by rfl) (by rfl) (fun K_ hK_ => ?_); have HK_ := Lib.hid hK_; clear hK_; go_wp2_with (first
              | (go_at_call 50; (with_reducible refine (HC10.out _).mono ?_); rintro e wa ⟨rfl, hba⟩; have hac := bc hba; have haf := bf hba; have haz := hba.size; try simp only [World.size_alloc, World.size_drew] at haz)
              | (go_at_call 62; refine (bytes_any _ _ _ (tagAt bs k) _ (HTV.out.below (by repeat (first | exact brefl _ | assumption | refine balloc ?_ _ | refine bdrew ?_ _ | refine bdrew1 ?_ | refine bthen ?_ (by assumption) | refine Below.trans ?_ (by assumption) | (refine bset ?_ (by first | (simp; done) | (simp; omega)) _)))) HTL.out (by omega)).mono ?_; rintro e wb ⟨ab, cb, rfl, hown, k1, k2, k3, hbb⟩; have hbc := bc hbb; have hbf := bf hbb; have hbz := hbb.size; (try simp only [World.size_alloc, World.size_drew] at hbz); have hsb := str_wld hown HTL.out [] (by simp); (try have hsb2 := str_wld hown HTL.out [V.heap.size] (by simp; omega)); (try have hsb3 := str_wld hown HTL.out [wa.heap.size] (by intro x hx; rw [List.mem_singleton] at hx; subst hx; simp only [World.size_alloc, World.size_drew]; omega)); clear hown k3)
              | (go_at_call 57; (with_reducible refine (HU8.out _ (HRV.out.below (by repeat (first | exact brefl _ | assumption | refine balloc ?_ _ | refine bdrew ?_ _ | refine bdrew1 ?_ | refine bthen ?_ (by assumption) | refine Below.trans ?_ (by assumption) | (refine bset ?_ (by first | (simp; done) | (simp; omega)) _))))).mono ?_); rintro e wc ⟨rfl, hbc⟩; have hcc := bc hbc; have hcf := bf hbc; have hcz := hbc.size; try simp only [World.size_alloc, World.size_drew] at hcz)
              | (go_at_call 57; (with_reducible refine (HU12.out _ (HRV.out.below (by repeat (first | exact brefl _ | assumption | refine balloc ?_ _ | refine bdrew ?_ _ | refine bdrew1 ?_ | refine bthen ?_ (by assumption) | refine Below.trans ?_ (by assumption) | (refine bset ?_ (by first | (simp; done) | (simp; omega)) _))))).mono ?_); rintro e wd ⟨rfl, hbd⟩; have hdc := bc hbd; have hdf := bf hbd; have hdz := hbd.size; try simp only [World.size_alloc, World.size_drew] at hdz)); refine HK_.out _ _ (wld_of (by repeat (first | exact same_below (brefl _) | exact same_realloc (by simp) | exact same_below (bdrew1 (brefl _)) | assumption | refine same_drew ?_ | refine same_then ?_ (by assumption) | refine same_alloc ?_ _ | (refine same_set ?_ (by first | (left; simp; done) | (right; simp; done) | (right; simp; omega)) _)))) ?_; clear HK_)
                refine tree_move (by repeat (first | exact same_below (brefl _) | exact same_realloc (by simp) | exact same_below (bdrew1 (brefl _)) | assumption | refine same_drew ?_ | refine same_then ?_ (by assumption) | refine same_alloc ?_ _ | (refine same_set ?_ (by first | (left; simp; done) | (right; simp; done) | (right; simp; omega)) _))) ?_; clear hG_; intro hG_
                (refine tree_quiet (by simp only [List.getElem?_toArray, List.getElem?_cons_succ, List.getElem?_cons_zero]; rfl) (by rfl) (by rfl) (fun K_ hK_ => ?_); go_big_quiet_op; refine hK_ _ ?_; clear hK_ K_)
                (refine tree_run (by simp only [List.getElem?_toArray, List.getElem?_cons_succ, List.getElem?_cons_zero]; rfl) (by rfl) (by rfl) (fun K_ hK_ => ?_); have HK_ := Lib.hid hK_; clear hK_; go_wp2_with (first
              | (go_at_call 50; (with_reducible refine (HC10.out _).mono ?_); rintro e wa ⟨rfl, hba⟩; have hac := bc hba; have haf := bf hba; have haz := hba.size; try simp only [World.size_alloc, World.size_drew] at haz)
              | (go_at_call 62; refine (bytes_any _ _ _ (tagAt bs k) _ (HTV.out.below (by repeat (first | exact brefl _ | assumption | refine balloc ?_ _ | refine bdrew ?_ _ | refine bdrew1 ?_ | refine bthen ?_ (by assumption) | refine Below.trans ?_ (by assumption) | (refine bset ?_ (by first | (simp; done) | (simp; omega)) _)))) HTL.out (by omega)).mono ?_; rintro e wb ⟨ab, cb, rfl, hown, k1, k2, k3, hbb⟩; have hbc := bc hbb; have hbf := bf hbb; have hbz := hbb.size; (try simp only [World.size_alloc, World.size_drew] at hbz); have hsb := str_wld hown HTL.out [] (by simp); (try have hsb2 := str_wld hown HTL.out [V.heap.size] (by simp; omega)); (try have hsb3 := str_wld hown HTL.out [wa.heap.size] (by intro x hx; rw [List.mem_singleton] at hx; subst hx; simp only [World.size_alloc, World.size_drew]; omega)); clear hown k3)
              | (go_at_call 57; (with_reducible refine (HU8.out _ (HRV.out.below (by repeat (first | exact brefl _ | assumption | refine balloc ?_ _ | refine bdrew ?_ _ | refine bdrew1 ?_ | refine bthen ?_ (by assumption) | refine Below.trans ?_ (by assumption) | (refine bset ?_ (by first | (simp; done) | (simp; omega)) _))))).mono ?_); rintro e wc ⟨rfl, hbc⟩; have hcc := bc hbc; have hcf := bf hbc; have hcz := hbc.size; try simp only [World.size_alloc, World.size_drew] at hcz)
              | (go_at_call 57; (with_reducible refine (HU12.out _ (HRV.out.below (by repeat (first | exact brefl _ | assumption | refine balloc ?_ _ | refine bdrew ?_ _ | refine bdrew1 ?_ | refine bthen ?_ (by assumption) | refine Below.trans ?_ (by assumption) | (refine bset ?_ (by first | (simp; done) | (simp; omega)) _))))).mono ?_); rintro e wd ⟨rfl, hbd⟩; have hdc := bc hbd; have hdf := bf hbd; have hdz := hbd.size; try simp only [World.size_alloc, World.size_drew] at hdz)); refine HK_.out _ _ (wld_of (by repeat (first | exact same_below (brefl _) | exact same_realloc (by simp) | exact same_below (bdrew1 (brefl _)) | assumption | refine same_drew ?_ | refine same_then ?_ (by assumption) | refine same_alloc ?_ _ | (refine same_set ?_ (by first | (left; simp; done) | (right; simp; done) | (right; simp; omega)) _)))) ?_; clear HK_)
                refine tree_nil ?_
                refine leaf_any 9 [36] (fun g9 W9 => Below V.heap.size V W9 ∧ V.heap.size ≤ g9 ∧ g9 < W9.heap.size ∧ W9.cell? ⟨g9, 0, none⟩ = some (.string (str (tagAt bs k))) ∧ W9.cell? ⟨g9, 1, none⟩ = some (.int .i64 at_) ∧ W9.cell? ⟨g9, 2, none⟩ = some (.int .i64 le_)) _ (by rfl) (by first | (simp only [blank, List.setIfInBounds_toArray, List.set_cons_succ, List.set_cons_zero]; rfl) | simp only [blank, List.setIfInBounds_toArray, List.set_cons_succ, List.set_cons_zero]) (hfin_ ()) ?_
                (refine ⟨(by repeat (first | exact brefl _ | assumption | refine balloc ?_ _ | refine bdrew ?_ _ | refine bdrew1 ?_ | refine bthen ?_ (by assumption) | refine Below.trans ?_ (by assumption) | (refine bset ?_ (by first | (simp; done) | (simp; omega)) _))), ?_, ?_, ?_, ?_, ?_⟩ <;> first | omega | (simp only [World.size_setCell, World.size_alloc, World.size_drew]; omega) | (simp [go_sem, ↓IntWalk.iteOmega, *]; done))
            · have HK_ := Lib.hid hK_; clear hK_; go_wp2_with (first
              | (go_at_call 50; (with_reducible refine (HC10.out _).mono ?_); rintro e wa ⟨rfl, hba⟩; have hac := bc hba; have haf := bf hba; have haz := hba.size; try simp only [World.size_alloc, World.size_drew] at haz)
              | (go_at_call 62; refine (bytes_any _ _ _ (tagAt bs k) _ (HTV.out.below (by repeat (first | exact brefl _ | assumption | refine balloc ?_ _ | refine bdrew ?_ _ | refine bdrew1 ?_ | refine bthen ?_ (by assumption) | refine Below.trans ?_ (by assumption) | (refine bset ?_ (by first | (simp; done) | (simp; omega)) _)))) HTL.out (by omega)).mono ?_; rintro e wb ⟨ab, cb, rfl, hown, k1, k2, k3, hbb⟩; have hbc := bc hbb; have hbf := bf hbb; have hbz := hbb.size; (try simp only [World.size_alloc, World.size_drew] at hbz); have hsb := str_wld hown HTL.out [] (by simp); (try have hsb2 := str_wld hown HTL.out [V.heap.size] (by simp; omega)); (try have hsb3 := str_wld hown HTL.out [wa.heap.size] (by intro x hx; rw [List.mem_singleton] at hx; subst hx; simp only [World.size_alloc, World.size_drew]; omega)); clear hown k3)
              | (go_at_call 57; (with_reducible refine (HU8.out _ (HRV.out.below (by repeat (first | exact brefl _ | assumption | refine balloc ?_ _ | refine bdrew ?_ _ | refine bdrew1 ?_ | refine bthen ?_ (by assumption) | refine Below.trans ?_ (by assumption) | (refine bset ?_ (by first | (simp; done) | (simp; omega)) _))))).mono ?_); rintro e wc ⟨rfl, hbc⟩; have hcc := bc hbc; have hcf := bf hbc; have hcz := hbc.size; try simp only [World.size_alloc, World.size_drew] at hcz)
              | (go_at_call 57; (with_reducible refine (HU12.out _ (HRV.out.below (by repeat (first | exact brefl _ | assumption | refine balloc ?_ _ | refine bdrew ?_ _ | refine bdrew1 ?_ | refine bthen ?_ (by assumption) | refine Below.trans ?_ (by assumption) | (refine bset ?_ (by first | (simp; done) | (simp; omega)) _))))).mono ?_); rintro e wd ⟨rfl, hbd⟩; have hdc := bc hbd; have hdf := bf hbd; have hdz := hbd.size; try simp only [World.size_alloc, World.size_drew] at hdz)); refine HK_.out _ _ (wld_of (by repeat (first | exact same_below (brefl _) | exact same_realloc (by simp) | exact same_below (bdrew1 (brefl _)) | assumption | refine same_drew ?_ | refine same_then ?_ (by assumption) | refine same_alloc ?_ _ | (refine same_set ?_ (by first | (left; simp; done) | (right; simp; done) | (right; simp; omega)) _)))) ?_; clear HK_
              first | (refine tree_move_alloc (by repeat (first | exact same_below (brefl _) | exact same_realloc (by simp) | exact same_below (bdrew1 (brefl _)) | assumption | refine same_drew ?_ | refine same_then ?_ (by assumption) | refine same_alloc ?_ _ | (refine same_set ?_ (by first | (left; simp; done) | (right; simp; done) | (right; simp; omega)) _))) (by simp only [World.size_alloc, World.size_drew] at *; omega) ?_; clear hG_; intro hG_) | (refine tree_move_alloc_drew (by repeat (first | exact same_below (brefl _) | exact same_realloc (by simp) | exact same_below (bdrew1 (brefl _)) | assumption | refine same_drew ?_ | refine same_then ?_ (by assumption) | refine same_alloc ?_ _ | (refine same_set ?_ (by first | (left; simp; done) | (right; simp; done) | (right; simp; omega)) _))) (by simp only [World.size_alloc, World.size_drew] at *; omega) ?_; clear hG_; intro hG_)
              (refine tree_run (by simp only [List.getElem?_toArray, List.getElem?_cons_succ, List.getElem?_cons_zero]; rfl) (by rfl) (by rfl) (fun K_ hK_ => ?_); have HK_ := Lib.hid hK_; clear hK_; go_wp2_with (first
              | (go_at_call 50; (with_reducible refine (HC10.out _).mono ?_); rintro e wa ⟨rfl, hba⟩; have hac := bc hba; have haf := bf hba; have haz := hba.size; try simp only [World.size_alloc, World.size_drew] at haz)
              | (go_at_call 62; refine (bytes_any _ _ _ (tagAt bs k) _ (HTV.out.below (by repeat (first | exact brefl _ | assumption | refine balloc ?_ _ | refine bdrew ?_ _ | refine bdrew1 ?_ | refine bthen ?_ (by assumption) | refine Below.trans ?_ (by assumption) | (refine bset ?_ (by first | (simp; done) | (simp; omega)) _)))) HTL.out (by omega)).mono ?_; rintro e wb ⟨ab, cb, rfl, hown, k1, k2, k3, hbb⟩; have hbc := bc hbb; have hbf := bf hbb; have hbz := hbb.size; (try simp only [World.size_alloc, World.size_drew] at hbz); have hsb := str_wld hown HTL.out [] (by simp); (try have hsb2 := str_wld hown HTL.out [V.heap.size] (by simp; omega)); (try have hsb3 := str_wld hown HTL.out [wa.heap.size] (by intro x hx; rw [List.mem_singleton] at hx; subst hx; simp only [World.size_alloc, World.size_drew]; omega)); clear hown k3)
              | (go_at_call 57; (with_reducible refine (HU8.out _ (HRV.out.below (by repeat (first | exact brefl _ | assumption | refine balloc ?_ _ | refine bdrew ?_ _ | refine bdrew1 ?_ | refine bthen ?_ (by assumption) | refine Below.trans ?_ (by assumption) | (refine bset ?_ (by first | (simp; done) | (simp; omega)) _))))).mono ?_); rintro e wc ⟨rfl, hbc⟩; have hcc := bc hbc; have hcf := bf hbc; have hcz := hbc.size; try simp only [World.size_alloc, World.size_drew] at hcz)
              | (go_at_call 57; (with_reducible refine (HU12.out _ (HRV.out.below (by repeat (first | exact brefl _ | assumption | refine balloc ?_ _ | refine bdrew ?_ _ | refine bdrew1 ?_ | refine bthen ?_ (by assumption) | refine Below.trans ?_ (by assumption) | (refine bset ?_ (by first | (simp; done) | (simp; omega)) _))))).mono ?_); rintro e wd ⟨rfl, hbd⟩; have hdc := bc hbd; have hdf := bf hbd; have hdz := hbd.size; try simp only [World.size_alloc, World.size_drew] at hdz)); refine HK_.out _ _ (wld_of (by repeat (first | exact same_below (brefl _) | exact same_realloc (by simp) | exact same_below (bdrew1 (brefl _)) | assumption | refine same_drew ?_ | refine same_then ?_ (by assumption) | refine same_alloc ?_ _ | (refine same_set ?_ (by first | (left; simp; done) | (right; simp; done) | (right; simp; omega)) _)))) ?_; clear HK_)
              refine tree_move (by repeat (first | exact same_below (brefl _) | exact same_realloc (by simp) | exact same_below (bdrew1 (brefl _)) | assumption | refine same_drew ?_ | refine same_then ?_ (by assumption) | refine same_alloc ?_ _ | (refine same_set ?_ (by first | (left; simp; done) | (right; simp; done) | (right; simp; omega)) _))) ?_; clear hG_; intro hG_
              (refine tree_run (by simp only [List.getElem?_toArray, List.getElem?_cons_succ, List.getElem?_cons_zero]; rfl) (by rfl) (by rfl) (fun K_ hK_ => ?_); have HK_ := Lib.hid hK_; clear hK_; go_wp2_with (first
              | (go_at_call 50; (with_reducible refine (HC10.out _).mono ?_); rintro e wa ⟨rfl, hba⟩; have hac := bc hba; have haf := bf hba; have haz := hba.size; try simp only [World.size_alloc, World.size_drew] at haz)
              | (go_at_call 62; refine (bytes_any _ _ _ (tagAt bs k) _ (HTV.out.below (by repeat (first | exact brefl _ | assumption | refine balloc ?_ _ | refine bdrew ?_ _ | refine bdrew1 ?_ | refine bthen ?_ (by assumption) | refine Below.trans ?_ (by assumption) | (refine bset ?_ (by first | (simp; done) | (simp; omega)) _)))) HTL.out (by omega)).mono ?_; rintro e wb ⟨ab, cb, rfl, hown, k1, k2, k3, hbb⟩; have hbc := bc hbb; have hbf := bf hbb; have hbz := hbb.size; (try simp only [World.size_alloc, World.size_drew] at hbz); have hsb := str_wld hown HTL.out [] (by simp); (try have hsb2 := str_wld hown HTL.out [V.heap.size] (by simp; omega)); (try have hsb3 := str_wld hown HTL.out [wa.heap.size] (by intro x hx; rw [List.mem_singleton] at hx; subst hx; simp only [World.size_alloc, World.size_drew]; omega)); clear hown k3)
              | (go_at_call 57; (with_reducible refine (HU8.out _ (HRV.out.below (by repeat (first | exact brefl _ | assumption | refine balloc ?_ _ | refine bdrew ?_ _ | refine bdrew1 ?_ | refine bthen ?_ (by assumption) | refine Below.trans ?_ (by assumption) | (refine bset ?_ (by first | (simp; done) | (simp; omega)) _))))).mono ?_); rintro e wc ⟨rfl, hbc⟩; have hcc := bc hbc; have hcf := bf hbc; have hcz := hbc.size; try simp only [World.size_alloc, World.size_drew] at hcz)
              | (go_at_call 57; (with_reducible refine (HU12.out _ (HRV.out.below (by repeat (first | exact brefl _ | assumption | refine balloc ?_ _ | refine bdrew ?_ _ | refine bdrew1 ?_ | refine bthen ?_ (by assumption) | refine Below.trans ?_ (by assumption) | (refine bset ?_ (by first | (simp; done) | (simp; omega)) _))))).mono ?_); rintro e wd ⟨rfl, hbd⟩; have hdc := bc hbd; have hdf := bf hbd; have hdz := hbd.size; try simp only [World.size_alloc, World.size_drew] at hdz)); refine HK_.out _ _ (wld_of (by repeat (first | exact same_below (brefl _) | exact same_realloc (by simp) | exact same_below (bdrew1 (brefl _)) | assumption | refine same_drew ?_ | refine same_then ?_ (by assumption) | refine same_alloc ?_ _ | (refine same_set ?_ (by first | (left; simp; done) | (right; simp; done) | (right; simp; omega)) _)))) ?_; clear HK_)
              refine tree_move (by repeat (first | exact same_below (brefl _) | exact same_realloc (by simp) | exact same_below (bdrew1 (brefl _)) | assumption | refine same_drew ?_ | refine same_then ?_ (by assumption) | refine same_alloc ?_ _ | (refine same_set ?_ (by first | (left; simp; done) | (right; simp; done) | (right; simp; omega)) _))) ?_; clear hG_; intro hG_
              (refine tree_quiet (by simp only [List.getElem?_toArray, List.getElem?_cons_succ, List.getElem?_cons_zero]; rfl) (by rfl) (by rfl) (fun K_ hK_ => ?_); go_big_quiet_op; refine hK_ _ ?_; clear hK_ K_)
              (refine tree_run (by simp only [List.getElem?_toArray, List.getElem?_cons_succ, List.getElem?_cons_zero]; rfl) (by rfl) (by rfl) (fun K_ hK_ => ?_); have HK_ := Lib.hid hK_; clear hK_; go_wp2_with (first
              | (go_at_call 50; (with_reducible refine (HC10.out _).mono ?_); rintro e wa ⟨rfl, hba⟩; have hac := bc hba; have haf := bf hba; have haz := hba.size; try simp only [World.size_alloc, World.size_drew] at haz)
              | (go_at_call 62; refine (bytes_any _ _ _ (tagAt bs k) _ (HTV.out.below (by repeat (first | exact brefl _ | assumption | refine balloc ?_ _ | refine bdrew ?_ _ | refine bdrew1 ?_ | refine bthen ?_ (by assumption) | refine Below.trans ?_ (by assumption) | (refine bset ?_ (by first | (simp; done) | (simp; omega)) _)))) HTL.out (by omega)).mono ?_; rintro e wb ⟨ab, cb, rfl, hown, k1, k2, k3, hbb⟩; have hbc := bc hbb; have hbf := bf hbb; have hbz := hbb.size; (try simp only [World.size_alloc, World.size_drew] at hbz); have hsb := str_wld hown HTL.out [] (by simp); (try have hsb2 := str_wld hown HTL.out [V.heap.size] (by simp; omega)); (try have hsb3 := str_wld hown HTL.out [wa.heap.size] (by intro x hx; rw [List.mem_singleton] at hx; subst hx; simp only [World.size_alloc, World.size_drew]; omega)); clear hown k3)
              | (go_at_call 57; (with_reducible refine (HU8.out _ (HRV.out.below (by repeat (first | exact brefl _ | assumption | refine balloc ?_ _ | refine bdrew ?_ _ | refine bdrew1 ?_ | refine bthen ?_ (by assumption) | refine Below.trans ?_ (by assumption) | (refine bset ?_ (by first | (simp; done) | (simp; omega)) _))))).mono ?_); rintro e wc ⟨rfl, hbc⟩; have hcc := bc hbc; have hcf := bf hbc; have hcz := hbc.size; try simp only [World.size_alloc, World.size_drew] at hcz)
              | (go_at_call 57; (with_reducible refine (HU12.out _ (HRV.out.below (by repeat (first | exact brefl _ | assumption | refine balloc ?_ _ | refine bdrew ?_ _ | refine bdrew1 ?_ | refine bthen ?_ (by assumption) | refine Below.trans ?_ (by assumption) | (refine bset ?_ (by first | (simp; done) | (simp; omega)) _))))).mono ?_); rintro e wd ⟨rfl, hbd⟩; have hdc := bc hbd; have hdf := bf hbd; have hdz := hbd.size; try simp only [World.size_alloc, World.size_drew] at hdz)); refine HK_.out _ _ (wld_of (by repeat (first | exact same_below (brefl _) | exact same_realloc (by simp) | exact same_below (bdrew1 (brefl _)) | assumption | refine same_drew ?_ | refine same_then ?_ (by assumption) | refine same_alloc ?_ _ | (refine same_set ?_ (by first | (left; simp; done) | (right; simp; done) | (right; simp; omega)) _)))) ?_; clear HK_)
              refine tree_move (by repeat (first | exact same_below (brefl _) | exact same_realloc (by simp) | exact same_below (bdrew1 (brefl _)) | assumption | refine same_drew ?_ | refine same_then ?_ (by assumption) | refine same_alloc ?_ _ | (refine same_set ?_ (by first | (left; simp; done) | (right; simp; done) | (right; simp; omega)) _))) ?_; clear hG_; intro hG_
              (refine tree_run (by simp only [List.getElem?_toArray, List.getElem?_cons_succ, List.getElem?_cons_zero]; rfl) (by rfl) (by rfl) (fun K_ hK_ => ?_); have HK_ := Lib.hid hK_; clear hK_; go_wp2_with (first
              | (go_at_call 50; (with_reducible refine (HC10.out _).mono ?_); rintro e wa ⟨rfl, hba⟩; have hac := bc hba; have haf := bf hba; have haz := hba.size; try simp only [World.size_alloc, World.size_drew] at haz)
              | (go_at_call 62; refine (bytes_any _ _ _ (tagAt bs k) _ (HTV.out.below (by repeat (first | exact brefl _ | assumption | refine balloc ?_ _ | refine bdrew ?_ _ | refine bdrew1 ?_ | refine bthen ?_ (by assumption) | refine Below.trans ?_ (by assumption) | (refine bset ?_ (by first | (simp; done) | (simp; omega)) _)))) HTL.out (by omega)).mono ?_; rintro e wb ⟨ab, cb, rfl, hown, k1, k2, k3, hbb⟩; have hbc := bc hbb; have hbf := bf hbb; have hbz := hbb.size; (try simp only [World.size_alloc, World.size_drew] at hbz); have hsb := str_wld hown HTL.out [] (by simp); (try have hsb2 := str_wld hown HTL.out [V.heap.size] (by simp; omega)); (try have hsb3 := str_wld hown HTL.out [wa.heap.size] (by intro x hx; rw [List.mem_singleton] at hx; subst hx; simp only [World.size_alloc, World.size_drew]; omega)); clear hown k3)
              | (go_at_call 57; (with_reducible refine (HU8.out _ (HRV.out.below (by repeat (first | exact brefl _ | assumption | refine balloc ?_ _ | refine bdrew ?_ _ | refine bdrew1 ?_ | refine bthen ?_ (by assumption) | refine Below.trans ?_ (by assumption) | (refine bset ?_ (by first | (simp; done) | (simp; omega)) _))))).mono ?_); rintro e wc ⟨rfl, hbc⟩; have hcc := bc hbc; have hcf := bf hbc; have hcz := hbc.size; try simp only [World.size_alloc, World.size_drew] at hcz)
              | (go_at_call 57; (with_reducible refine (HU12.out _ (HRV.out.below (by repeat (first | exact brefl _ | assumption | refine balloc ?_ _ | refine bdrew ?_ _ | refine bdrew1 ?_ | refine bthen ?_ (by assumption) | refine Below.trans ?_ (by assumption) | (refine bset ?_ (by first | (simp; done) | (simp; omega)) _))))).mono ?_); rintro e wd ⟨rfl, hbd⟩; have hdc := bc hbd; have hdf := bf hbd; have hdz := hbd.size; try simp only [World.size_alloc, World.size_drew] at hdz)); refine HK_.out _ _ (wld_of (by repeat (first | exact same_below (brefl _) | exact same_realloc (by simp) | exact same_below (bdrew1 (brefl _)) | assumption | refine same_drew ?_ | refine same_then ?_ (by assumption) | refine same_alloc ?_ _ | (refine same_set ?_ (by first | (left; simp; done) | (right; simp; done) | (right; simp; omega)) _)))) ?_; clear HK_)
              refine tree_move (by repeat (first | exact same_below (brefl _) | exact same_realloc (by simp) | exact same_below (bdrew1 (brefl _)) | assumption | refine same_drew ?_ | refine same_then ?_ (by assumption) | refine same_alloc ?_ _ | (refine same_set ?_ (by first | (left; simp; done) | (right; simp; done) | (right; simp; omega)) _))) ?_; clear hG_; intro hG_
              (refine tree_quiet (by simp only [List.getElem?_toArray, List.getElem?_cons_succ, List.getElem?_cons_zero]; rfl) (by rfl) (by rfl) (fun K_ hK_ => ?_); go_big_quiet_op; refine hK_ _ ?_; clear hK_ K_)
              (refine tree_run (by simp only [List.getElem?_toArray, List.getElem?_cons_succ, List.getElem?_cons_zero]; rfl) (by rfl) (by rfl) (fun K_ hK_ => ?_); have HK_ := Lib.hid hK_; clear hK_; go_wp2_with (first
              | (go_at_call 50; (with_reducible refine (HC10.out _).mono ?_); rintro e wa ⟨rfl, hba⟩; have hac := bc hba; have haf := bf hba; have haz := hba.size; try simp only [World.size_alloc, World.size_drew] at haz)
              | (go_at_call 62; refine (bytes_any _ _ _ (tagAt bs k) _ (HTV.out.below (by repeat (first | exact brefl _ | assumption | refine balloc ?_ _ | refine bdrew ?_ _ | refine bdrew1 ?_ | refine bthen ?_ (by assumption) | refine Below.trans ?_ (by assumption) | (refine bset ?_ (by first | (simp; done) | (simp; omega)) _)))) HTL.out (by omega)).mono ?_; rintro e wb ⟨ab, cb, rfl, hown, k1, k2, k3, hbb⟩; have hbc := bc hbb; have hbf := bf hbb; have hbz := hbb.size; (try simp only [World.size_alloc, World.size_drew] at hbz); have hsb := str_wld hown HTL.out [] (by simp); (try have hsb2 := str_wld hown HTL.out [V.heap.size] (by simp; omega)); (try have hsb3 := str_wld hown HTL.out [wa.heap.size] (by intro x hx; rw [List.mem_singleton] at hx; subst hx; simp only [World.size_alloc, World.size_drew]; omega)); clear hown k3)
              | (go_at_call 57; (with_reducible refine (HU8.out _ (HRV.out.below (by repeat (first | exact brefl _ | assumption | refine balloc ?_ _ | refine bdrew ?_ _ | refine bdrew1 ?_ | refine bthen ?_ (by assumption) | refine Below.trans ?_ (by assumption) | (refine bset ?_ (by first | (simp; done) | (simp; omega)) _))))).mono ?_); rintro e wc ⟨rfl, hbc⟩; have hcc := bc hbc; have hcf := bf hbc; have hcz := hbc.size; try simp only [World.size_alloc, World.size_drew] at hcz)
              | (go_at_call 57; (with_reducible refine (HU12.out _ (HRV.out.below (by repeat (first | exact brefl _ | assumption | refine balloc ?_ _ | refine bdrew ?_ _ | refine bdrew1 ?_ | refine bthen ?_ (by assumption) | refine Below.trans ?_ (by assumption) | (refine bset ?_ (by first | (simp; done) | (simp; omega)) _))))).mono ?_); rintro e wd ⟨rfl, hbd⟩; have hdc := bc hbd; have hdf := bf hbd; have hdz := hbd.size; try simp only [World.size_alloc, World.size_drew] at hdz)); refine HK_.out _ _ (wld_of (by repeat (first | exact same_below (brefl _) | exact same_realloc (by simp) | exact same_below (bdrew1 (brefl _)) | assumption | refine same_drew ?_ | refine same_then ?_ (by assumption) | refine same_alloc ?_ _ | (refine same_set ?_ (by first | (left; simp; done) | (right; simp; done) | (right; simp; omega)) _)))) ?_; clear HK_)
              refine tree_nil ?_
              refine leaf_any 9 [36] (fun g9 W9 => Below V.heap.size V W9 ∧ V.heap.size ≤ g9 ∧ g9 < W9.heap.size ∧ W9.cell? ⟨g9, 0, none⟩ = some (.string (str (tagAt bs k))) ∧ W9.cell? ⟨g9, 1, none⟩ = some (.int .i64 at_) ∧ W9.cell? ⟨g9, 2, none⟩ = some (.int .i64 le_)) _ (by rfl) (by first | (simp only [blank, List.setIfInBounds_toArray, List.set_cons_succ, List.set_cons_zero]; rfl) | simp only [blank, List.setIfInBounds_toArray, List.set_cons_succ, List.set_cons_zero]) (hfin_ ()) ?_
              (refine ⟨(by repeat (first | exact brefl _ | assumption | refine balloc ?_ _ | refine bdrew ?_ _ | refine bdrew1 ?_ | refine bthen ?_ (by assumption) | refine Below.trans ?_ (by assumption) | (refine bset ?_ (by first | (simp; done) | (simp; omega)) _))), ?_, ?_, ?_, ?_, ?_⟩ <;> first | omega | (simp only [World.size_setCell, World.size_alloc, World.size_drew]; omega) | (simp [go_sem, ↓IntWalk.iteOmega, *]; done))
          intro g9 x9 W9 ⟨b9, hg9, hg9', q0, q1, q2⟩
          generalize x9 36 = v36
          simp only [fill, List.setIfInBounds_toArray, List.set_cons_succ, List.set_cons_zero]
          have bW9 : Below w.heap.size w W9 := HV.out.trans (b9.mono HV.out.size)
          have bR9 : Below wr.heap.size wr W9 := HBV.out.trans (b9.mono hzV)
          have hO9 := owns_below HO5.out bR9 (Nat.le_refl _)
          have d09 := (bR9.cell (p := ⟨w.heap.size, 0, none⟩) (cell_lt d0)).trans d0
          have d59 := (bR9.cell (p := ⟨g5, 0, none⟩) (cell_lt d5)).trans d5
          have hgr := (hO9.lt (g5 + 1) (by simp [Value.ownBlock])).2
          have hz9 := b9.size
          have HO9 := Lib.hid hO9
          have HW9 := Lib.hid bW9
          have hF9 := fun j => World.ownsRow.frozenAt hO9 j
          have r0 : ∃ x0, W9.cell? ⟨g5 + 1, k * 3, none⟩ = some x0 := own_cell hO9 (by omega)
          have r1 : ∃ x1, W9.cell? ⟨g5 + 1, k * 3 + 1, none⟩ = some x1 := own_cell hO9 (by omega)
          have r2 : ∃ x2, W9.cell? ⟨g5 + 1, k * 3 + 2, none⟩ = some x2 := own_cell hO9 (by omega)
          clear hO9 bW9 bR9 b9 HBV HTV HRV z8 HT HU8 HU12 HC10 HC9 d0 d5
          rcases k with _ | k
          · go_wp2_with fail
            refine wp_region_tree (.step 0 (.step 1 (.step 2 (.step 3 (.step 4 (.step 5 (.step 6 (.step 7 (.step 8 (.step 9 (.step 10 (.step 11 (.step 12 (.step 13 .nil)))))))))))))) (by kernel_rfl) (by kernel_rfl) (by kernel_rfl) (by kernel_rfl) (by intro _ _ d_ _ _ h_; cases d_ <;> first | exact h_ | (dsimp +zetaDelta only at h_ ⊢; exact h_)) (fun w' => ∃ p : Wld W9 [], w' = p.val) (wld_start _ _) ?_
            have hG_ := @wldC W9
            (refine tree_quiet (by simp only [List.getElem?_toArray, List.getElem?_cons_succ, List.getElem?_cons_zero]; rfl) (by rfl) (by rfl) (fun K_ hK_ => ?_); go_big_quiet_op; refine hK_ _ ?_; clear hK_ K_)
            (refine tree_quiet (by simp only [List.getElem?_toArray, List.getElem?_cons_succ, List.getElem?_cons_zero]; rfl) (by rfl) (by rfl) (fun K_ hK_ => ?_); go_big_quiet_op; refine hK_ _ ?_; clear hK_ K_)
            (refine tree_quiet (by simp only [List.getElem?_toArray, List.getElem?_cons_succ, List.getElem?_cons_zero]; rfl) (by rfl) (by rfl) (fun K_ hK_ => ?_); go_big_quiet_op; refine hK_ _ ?_; clear hK_ K_)
            refine tree_skip (by simp only [List.getElem?_toArray, List.getElem?_cons_succ, List.getElem?_cons_zero]; rfl) (by rfl) ?_; dsimp only [Act.put]; simp only [List.setIfInBounds_toArray, List.set_cons_succ, List.set_cons_zero]
            refine tree_skip (by simp only [List.getElem?_toArray, List.getElem?_cons_succ, List.getElem?_cons_zero]; rfl) (by rfl) ?_; dsimp only [Act.put]; simp only [List.setIfInBounds_toArray, List.set_cons_succ, List.set_cons_zero]
            refine tree_skip (by simp only [List.getElem?_toArray, List.getElem?_cons_succ, List.getElem?_cons_zero]; rfl) (by rfl) ?_; dsimp only [Act.put]; simp only [List.setIfInBounds_toArray, List.set_cons_succ, List.set_cons_zero]
            refine tree_skip (by simp only [List.getElem?_toArray, List.getElem?_cons_succ, List.getElem?_cons_zero]; rfl) (by rfl) ?_; dsimp only [Act.put]; simp only [List.setIfInBounds_toArray, List.set_cons_succ, List.set_cons_zero]
            refine tree_skip (by simp only [List.getElem?_toArray, List.getElem?_cons_succ, List.getElem?_cons_zero]; rfl) (by rfl) ?_; dsimp only [Act.put]; simp only [List.setIfInBounds_toArray, List.set_cons_succ, List.set_cons_zero]
            refine tree_skip (by simp only [List.getElem?_toArray, List.getElem?_cons_succ, List.getElem?_cons_zero]; rfl) (by rfl) ?_; dsimp only [Act.put]; simp only [List.setIfInBounds_toArray, List.set_cons_succ, List.set_cons_zero]
            refine tree_skip (by simp only [List.getElem?_toArray, List.getElem?_cons_succ, List.getElem?_cons_zero]; rfl) (by rfl) ?_; dsimp only [Act.put]; simp only [List.setIfInBounds_toArray, List.set_cons_succ, List.set_cons_zero]
            refine tree_skip (by simp only [List.getElem?_toArray, List.getElem?_cons_succ, List.getElem?_cons_zero]; rfl) (by rfl) ?_; dsimp only [Act.put]; simp only [List.setIfInBounds_toArray, List.set_cons_succ, List.set_cons_zero]
            refine tree_skip (by simp only [List.getElem?_toArray, List.getElem?_cons_succ, List.getElem?_cons_zero]; rfl) (by rfl) ?_; dsimp only [Act.put]; simp only [List.setIfInBounds_toArray, List.set_cons_succ, List.set_cons_zero]
            (refine tree_quiet (by simp only [List.getElem?_toArray, List.getElem?_cons_succ, List.getElem?_cons_zero]; rfl) (by rfl) (by rfl) (fun K_ hK_ => ?_); go_big_quiet_op; refine hK_ _ ?_; clear hK_ K_)
            (refine tree_run (by simp only [List.getElem?_toArray, List.getElem?_cons_succ, List.getElem?_cons_zero]; rfl) (by rfl) (by rfl) (fun K_ hK_ => ?_); have HK_ := Lib.hid hK_; clear hK_; go_wp2_with ((go_at_call 58; refine (need_t _ (by first | rfl | simp) _).mono ?_; rintro e w_ ⟨rfl, rfl⟩)); refine HK_.out _ _ (wld_of (by repeat (first | exact same_below (brefl _) | exact same_realloc (by simp) | exact same_below (bdrew1 (brefl _)) | assumption | refine same_drew ?_ | refine same_then ?_ (by assumption) | refine same_alloc ?_ _ | (refine same_set ?_ (by first | (left; simp; done) | (right; simp; done) | (right; simp; omega)) _)))) ?_; clear HK_)
            refine tree_nil ?_
            clear hG_
            obtain ⟨x0, r0⟩ := r0
            obtain ⟨x1, r1⟩ := r1
            obtain ⟨x2, r2⟩ := r2
            have HRK := Lib.hid (show 0 < 0 → ltB (tagAt bs (0 - 1)) (tagAt bs 0) = true from fun h => by omega)
            by_cases hfit : at_ + le_ ≤ n
            case neg =>
              have HNF := Lib.hid (show ¬ isFont bs from fun hf => by
                have h1 := (hf.2 0 (by rw [HCNT.out]; omega)).2
                rw [HAT.out, HLE.out, HL.out] at h1
                omega)
              have hcb := fun W => cut_bad a n c (at_ : Nat) (le_ : Nat) W (by omega) hn hc
              have HCB := Lib.hid hcb
              clear hcb
              go_wp2_with (first | (go_at_call 50; (with_reducible refine (HCB.out _).mono ?_); rintro e wq ⟨rfl, hbq⟩; have hqc := bc hbq; have hqf := bf hbq; have hqz := hbq.size; try simp only [World.size_alloc, World.size_drew] at hqz))
              exact ⟨rfl, .inr ⟨rfl, HNF.out⟩, by exact (HW9.out.drew).trans (hbq.mono (by simp only [World.size_drew] at *; omega))⟩
            have hcg := fun W => cut_ok a n c at_ le_ W hfit hn hc
            have HCG := Lib.hid hcg
            clear hcg
            go_wp2_with (first | (go_at_call 50; (with_reducible refine (HCG.out _).mono ?_); rintro e wq ⟨rfl, hbq⟩; have hqc := bc hbq; have hqf := bf hbq; have hqz := hbq.size; try simp only [World.size_alloc, World.size_drew] at hqz))
            have hbq9 := Lib.hid (show Below W9.heap.size W9 wq from (brefl W9).drew.trans hbq)
            go_roundw
            case rel => exact take_step HCNT.out hlt rfl (by go_num) HRW5.out ⟨HRK.out, by rw [HAT.out, HLE.out, HL.out]; exact hfit⟩ HAT.out HLE.out (owns_below HO9.out (hbq9.out) (Nat.le_refl _)) ((hbq9.out.cell (p := ⟨w.heap.size, 0, none⟩) (cell_lt d09)).trans d09) ((hbq9.out.cell (p := ⟨g5, 0, none⟩) (cell_lt d59)).trans d59) (HW9.out.trans (hbq9.out.mono HW9.out.size)) h05 (by simp) (by simp) (by simp)
            case measure => simp [intOf]; omega
          · have rt : W9.cell? ⟨g5 + 1, k * 3, none⟩ = some (.string (str (tagAt bs k))) := by
              have h1 := HO9.out.cellAt (k * 3) (by omega)
              rw [h1, List.getElem?_append_left (by rw [tabsV_length]; omega)]
              exact tabsV_tag bs (k + 1) k (by omega)
            by_cases hlb : Op.bytesLess (str (tagAt bs k)).toList (str (tagAt bs (k + 1))).toList = true
            case neg =>
              have hlb' : Op.bytesLess (str (tagAt bs k)).toList (str (tagAt bs (k + 1))).toList = false := by simpa using hlb
              have HNF := Lib.hid (show ¬ isFont bs from fun hf => hlb ((hf.2 (k + 1) (by rw [HCNT.out]; omega)).1 (by omega)))
              clear hlb
              go_wp2_with fail
              refine wp_region_tree (.step 0 (.step 1 (.step 2 (.step 3 (.step 4 (.step 5 (.step 6 (.step 7 (.step 8 (.step 9 (.step 10 (.step 11 (.step 12 (.step 13 .nil)))))))))))))) (by kernel_rfl) (by kernel_rfl) (by kernel_rfl) (by kernel_rfl) (by intro _ _ d_ _ _ h_; cases d_ <;> first | exact h_ | (dsimp +zetaDelta only at h_ ⊢; exact h_)) (fun w' => ∃ p : Wld W9 [], w' = p.val) (wld_start _ _) ?_
              have hG_ := @wldC W9
              (refine tree_quiet (by simp only [List.getElem?_toArray, List.getElem?_cons_succ, List.getElem?_cons_zero]; rfl) (by rfl) (by rfl) (fun K_ hK_ => ?_); go_big_quiet_op; refine hK_ _ ?_; clear hK_ K_)
              (refine tree_quiet (by simp only [List.getElem?_toArray, List.getElem?_cons_succ, List.getElem?_cons_zero]; rfl) (by rfl) (by rfl) (fun K_ hK_ => ?_); go_big_quiet_op; refine hK_ _ ?_; clear hK_ K_)
              (refine tree_quiet (by simp only [List.getElem?_toArray, List.getElem?_cons_succ, List.getElem?_cons_zero]; rfl) (by rfl) (by rfl) (fun K_ hK_ => ?_); go_big_quiet_op; refine hK_ _ ?_; clear hK_ K_)
              (refine tree_quiet (by simp only [List.getElem?_toArray, List.getElem?_cons_succ, List.getElem?_cons_zero]; rfl) (by rfl) (by rfl) (fun K_ hK_ => ?_); go_big_quiet_op; refine hK_ _ ?_; clear hK_ K_)
              (refine tree_quiet (by simp only [List.getElem?_toArray, List.getElem?_cons_succ, List.getElem?_cons_zero]; rfl) (by rfl) (by rfl) (fun K_ hK_ => ?_); go_big_quiet_op; refine hK_ _ ?_; clear hK_ K_)
              (refine tree_quiet (by simp only [List.getElem?_toArray, List.getElem?_cons_succ, List.getElem?_cons_zero]; rfl) (by rfl) (by rfl) (fun K_ hK_ => ?_); go_big_quiet_op; refine hK_ _ ?_; clear hK_ K_)
              (refine tree_quiet (by simp only [List.getElem?_toArray, List.getElem?_cons_succ, List.getElem?_cons_zero]; rfl) (by rfl) (by rfl) (fun K_ hK_ => ?_); go_big_quiet_op; refine hK_ _ ?_; clear hK_ K_)
              (refine tree_quiet (by simp only [List.getElem?_toArray, List.getElem?_cons_succ, List.getElem?_cons_zero]; rfl) (by rfl) (by rfl) (fun K_ hK_ => ?_); go_big_quiet_op; refine hK_ _ ?_; clear hK_ K_)
              (refine tree_quiet (by simp only [List.getElem?_toArray, List.getElem?_cons_succ, List.getElem?_cons_zero]; rfl) (by rfl) (by rfl) (fun K_ hK_ => ?_); go_big_quiet_op; refine hK_ _ ?_; clear hK_ K_)
              (refine tree_quiet (by simp only [List.getElem?_toArray, List.getElem?_cons_succ, List.getElem?_cons_zero]; rfl) (by rfl) (by rfl) (fun K_ hK_ => ?_); go_big_quiet_op; refine hK_ _ ?_; clear hK_ K_)
              (refine tree_quiet (by simp only [List.getElem?_toArray, List.getElem?_cons_succ, List.getElem?_cons_zero]; rfl) (by rfl) (by rfl) (fun K_ hK_ => ?_); go_big_quiet_op; refine hK_ _ ?_; clear hK_ K_)
              (refine tree_quiet (by simp only [List.getElem?_toArray, List.getElem?_cons_succ, List.getElem?_cons_zero]; rfl) (by rfl) (by rfl) (fun K_ hK_ => ?_); go_big_quiet_op; refine hK_ _ ?_; clear hK_ K_)
              (refine tree_quiet (by simp only [List.getElem?_toArray, List.getElem?_cons_succ, List.getElem?_cons_zero]; rfl) (by rfl) (by rfl) (fun K_ hK_ => ?_); go_big_quiet_op; refine hK_ _ ?_; clear hK_ K_)
              (refine tree_run (by simp only [List.getElem?_toArray, List.getElem?_cons_succ, List.getElem?_cons_zero]; rfl) (by rfl) (by rfl) (fun K_ hK_ => ?_); have HK_ := Lib.hid hK_; clear hK_; go_wp2_with ((go_at_call 58; refine (need_f _ (by first | rfl | simp | (simp; omega)) _).mono ?_; rintro e w_ ⟨rfl, rfl⟩)))
              go_wp2_with fail
              exact ⟨rfl, .inr ⟨rfl, HNF.out⟩, HW9.out.drew⟩
            go_wp2_with fail
            refine wp_region_tree (.step 0 (.step 1 (.step 2 (.step 3 (.step 4 (.step 5 (.step 6 (.step 7 (.step 8 (.step 9 (.step 10 (.step 11 (.step 12 (.step 13 .nil)))))))))))))) (by kernel_rfl) (by kernel_rfl) (by kernel_rfl) (by kernel_rfl) (by intro _ _ d_ _ _ h_; cases d_ <;> first | exact h_ | (dsimp +zetaDelta only at h_ ⊢; exact h_)) (fun w' => ∃ p : Wld W9 [], w' = p.val) (wld_start _ _) ?_
            have hG_ := @wldC W9
            (refine tree_quiet (by simp only [List.getElem?_toArray, List.getElem?_cons_succ, List.getElem?_cons_zero]; rfl) (by rfl) (by rfl) (fun K_ hK_ => ?_); go_big_quiet_op; refine hK_ _ ?_; clear hK_ K_)
            (refine tree_quiet (by simp only [List.getElem?_toArray, List.getElem?_cons_succ, List.getElem?_cons_zero]; rfl) (by rfl) (by rfl) (fun K_ hK_ => ?_); go_big_quiet_op; refine hK_ _ ?_; clear hK_ K_)
            (refine tree_quiet (by simp only [List.getElem?_toArray, List.getElem?_cons_succ, List.getElem?_cons_zero]; rfl) (by rfl) (by rfl) (fun K_ hK_ => ?_); go_big_quiet_op; refine hK_ _ ?_; clear hK_ K_)
            (refine tree_quiet (by simp only [List.getElem?_toArray, List.getElem?_cons_succ, List.getElem?_cons_zero]; rfl) (by rfl) (by rfl) (fun K_ hK_ => ?_); go_big_quiet_op; refine hK_ _ ?_; clear hK_ K_)
            (refine tree_quiet (by simp only [List.getElem?_toArray, List.getElem?_cons_succ, List.getElem?_cons_zero]; rfl) (by rfl) (by rfl) (fun K_ hK_ => ?_); go_big_quiet_op; refine hK_ _ ?_; clear hK_ K_)
            (refine tree_quiet (by simp only [List.getElem?_toArray, List.getElem?_cons_succ, List.getElem?_cons_zero]; rfl) (by rfl) (by rfl) (fun K_ hK_ => ?_); go_big_quiet_op; refine hK_ _ ?_; clear hK_ K_)
            (refine tree_quiet (by simp only [List.getElem?_toArray, List.getElem?_cons_succ, List.getElem?_cons_zero]; rfl) (by rfl) (by rfl) (fun K_ hK_ => ?_); go_big_quiet_op; refine hK_ _ ?_; clear hK_ K_)
            (refine tree_quiet (by simp only [List.getElem?_toArray, List.getElem?_cons_succ, List.getElem?_cons_zero]; rfl) (by rfl) (by rfl) (fun K_ hK_ => ?_); go_big_quiet_op; refine hK_ _ ?_; clear hK_ K_)
            (refine tree_quiet (by simp only [List.getElem?_toArray, List.getElem?_cons_succ, List.getElem?_cons_zero]; rfl) (by rfl) (by rfl) (fun K_ hK_ => ?_); go_big_quiet_op; refine hK_ _ ?_; clear hK_ K_)
            (refine tree_quiet (by simp only [List.getElem?_toArray, List.getElem?_cons_succ, List.getElem?_cons_zero]; rfl) (by rfl) (by rfl) (fun K_ hK_ => ?_); go_big_quiet_op; refine hK_ _ ?_; clear hK_ K_)
            (refine tree_quiet (by simp only [List.getElem?_toArray, List.getElem?_cons_succ, List.getElem?_cons_zero]; rfl) (by rfl) (by rfl) (fun K_ hK_ => ?_); go_big_quiet_op; refine hK_ _ ?_; clear hK_ K_)
            (refine tree_quiet (by simp only [List.getElem?_toArray, List.getElem?_cons_succ, List.getElem?_cons_zero]; rfl) (by rfl) (by rfl) (fun K_ hK_ => ?_); go_big_quiet_op; refine hK_ _ ?_; clear hK_ K_)
            (refine tree_quiet (by simp only [List.getElem?_toArray, List.getElem?_cons_succ, List.getElem?_cons_zero]; rfl) (by rfl) (by rfl) (fun K_ hK_ => ?_); go_big_quiet_op; refine hK_ _ ?_; clear hK_ K_)
            (refine tree_run (by simp only [List.getElem?_toArray, List.getElem?_cons_succ, List.getElem?_cons_zero]; rfl) (by rfl) (by rfl) (fun K_ hK_ => ?_); have HK_ := Lib.hid hK_; clear hK_; go_wp2_with ((go_at_call 58; refine (need_t _ (by first | rfl | simp) _).mono ?_; rintro e w_ ⟨rfl, rfl⟩)); refine HK_.out _ _ (wld_of (by repeat (first | exact same_below (brefl _) | exact same_realloc (by simp) | exact same_below (bdrew1 (brefl _)) | assumption | refine same_drew ?_ | refine same_then ?_ (by assumption) | refine same_alloc ?_ _ | (refine same_set ?_ (by first | (left; simp; done) | (right; simp; done) | (right; simp; omega)) _)))) ?_; clear HK_)
            refine tree_nil ?_
            clear hG_
            obtain ⟨x0, r0⟩ := r0
            obtain ⟨x1, r1⟩ := r1
            obtain ⟨x2, r2⟩ := r2
            have HRK := Lib.hid (show 0 < k + 1 → ltB (tagAt bs (k + 1 - 1)) (tagAt bs (k + 1)) = true from fun _ => hlb)
            clear rt hlb
            by_cases hfit : at_ + le_ ≤ n
            case neg =>
              have HNF := Lib.hid (show ¬ isFont bs from fun hf => by
                have h1 := (hf.2 (k + 1) (by rw [HCNT.out]; omega)).2
                rw [HAT.out, HLE.out, HL.out] at h1
                omega)
              have hcb := fun W => cut_bad a n c (at_ : Nat) (le_ : Nat) W (by omega) hn hc
              have HCB := Lib.hid hcb
              clear hcb
              go_wp2_with (first | (go_at_call 50; (with_reducible refine (HCB.out _).mono ?_); rintro e wq ⟨rfl, hbq⟩; have hqc := bc hbq; have hqf := bf hbq; have hqz := hbq.size; try simp only [World.size_alloc, World.size_drew] at hqz))
              exact ⟨rfl, .inr ⟨rfl, HNF.out⟩, by exact (HW9.out.drew).trans (hbq.mono (by simp only [World.size_drew] at *; omega))⟩
            have hcg := fun W => cut_ok a n c at_ le_ W hfit hn hc
            have HCG := Lib.hid hcg
            clear hcg
            go_wp2_with (first | (go_at_call 50; (with_reducible refine (HCG.out _).mono ?_); rintro e wq ⟨rfl, hbq⟩; have hqc := bc hbq; have hqf := bf hbq; have hqz := hbq.size; try simp only [World.size_alloc, World.size_drew] at hqz))
            have hbq9 := Lib.hid (show Below W9.heap.size W9 wq from (brefl W9).drew.trans hbq)
            go_roundw
            case rel => exact take_step HCNT.out hlt rfl (by go_num) HRW5.out ⟨HRK.out, by rw [HAT.out, HLE.out, HL.out]; exact hfit⟩ HAT.out HLE.out (owns_below HO9.out (hbq9.out) (Nat.le_refl _)) ((hbq9.out.cell (p := ⟨w.heap.size, 0, none⟩) (cell_lt d09)).trans d09) ((hbq9.out.cell (p := ⟨g5, 0, none⟩) (cell_lt d59)).trans d59) (HW9.out.trans (hbq9.out.mono HW9.out.size)) h05 rfl rfl rfl
            case measure => simp [intOf]; omega
        · obtain rfl : N = k := by omega
          go_wp2
          go_ret
          rw [HCNT.out]
          exact ⟨.inl ⟨g5 + 1, rfl, by have h := HO5.out; rw [Nat.sub_self, show blankV 0 = [] from rfl, List.append_nil] at h; exact h, HRO.out, by rw [HCNT.out]; exact HRW5.out⟩, HBR.out⟩
end Go.Proofs.Ytginpjkojfdcoaa
