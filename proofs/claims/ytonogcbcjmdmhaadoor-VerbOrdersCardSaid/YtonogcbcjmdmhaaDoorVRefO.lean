
/- Which order a verb gives, by the document's own answer: its Order. Conditions: sizes. -/
import Derived.Test.YtonogcbcjmdmhaaDoorVOrd
namespace Go.Proofs.YtonogcbcjmdmhaaDoor
open Go.RowKit Go.Lib

theorem fromL_get : ∀ k (_ : k < 16) (h : k < 16), ([.string ⟨#[]⟩, .string ⟨#[65, 120]⟩, .string ⟨#[120, 68]⟩, .string ⟨#[65, 120, 68]⟩, .string ⟨#[65, 66, 120]⟩, .string ⟨#[65, 66, 120]⟩, .string ⟨#[120, 67, 68]⟩, .string ⟨#[120, 67, 68]⟩, .string ⟨#[65, 120, 67, 68]⟩, .string ⟨#[65, 120, 67, 68]⟩, .string ⟨#[65, 66, 120, 68]⟩, .string ⟨#[65, 66, 120, 68]⟩, .string ⟨#[65, 66, 120, 67, 68]⟩, .string ⟨#[65, 66, 120, 67, 68]⟩, .string ⟨#[65, 66, 120, 67, 68]⟩, .string ⟨#[65, 66, 120, 67, 68]⟩] : List Value)[k]'h = .string (str (wasV k))
  | 0, _ | 1, _ | 2, _ | 3, _ | 4, _ | 5, _ | 6, _ | 7, _ | 8, _ | 9, _ | 10, _ | 11, _ | 12, _ | 13, _ | 14, _ | 15, _ => fun _ => rfl
  | k + 16, h => absurd h (by omega)
theorem toL_get : ∀ k (_ : k < 16) (h : k < 16), ([.string ⟨#[]⟩, .string ⟨#[120, 65]⟩, .string ⟨#[68, 120]⟩, .string ⟨#[68, 120, 65]⟩, .string ⟨#[120, 65, 66]⟩, .string ⟨#[120, 66, 65]⟩, .string ⟨#[67, 68, 120]⟩, .string ⟨#[68, 67, 120]⟩, .string ⟨#[67, 68, 120, 65]⟩, .string ⟨#[68, 67, 120, 65]⟩, .string ⟨#[68, 120, 65, 66]⟩, .string ⟨#[68, 120, 66, 65]⟩, .string ⟨#[67, 68, 120, 65, 66]⟩, .string ⟨#[67, 68, 120, 66, 65]⟩, .string ⟨#[68, 67, 120, 65, 66]⟩, .string ⟨#[68, 67, 120, 66, 65]⟩] : List Value)[k]'h = .string (str (isV k))
  | 0, _ | 1, _ | 2, _ | 3, _ | 4, _ | 5, _ | 6, _ | 7, _ | 8, _ | 9, _ | 10, _ | 11, _ | 12, _ | 13, _ | 14, _ | 15, _ => fun _ => rfl
  | k + 16, h => absurd h (by omega)
/-- Where a letter stands in a row. -/
def posV (v : Nat) (c : UInt8) : Nat := (wasV v).idxOf c
theorem posV_lt : ∀ v, v < 16 → ∀ c ∈ isV v, posV v c < (wasV v).length := by decide
theorem posV_at : ∀ v, v < 16 → ∀ c ∈ isV v, (wasV v)[posV v c]? = some c := by decide
theorem posV_no : ∀ v, v < 16 → ∀ c ∈ isV v, ∀ q, q < posV v c → (wasV v)[q]? ≠ some c := by decide
theorem wasV_x : ∀ v, v < 16 → ∀ q, q < (wasV v).length → ((wasV v)[q]? = some 120 ↔ q = (preV v).length) := by decide
theorem wasV_len : ∀ v, v < 16 → 1 ≤ v → (wasV v).length = (preV v).length + (sufV v).length + 1 := by decide
theorem posV_is : ∀ v, v < 16 → ∀ c ∈ isV v, (c = 65 → posV v c = 0 ∧ 1 ≤ (preV v).length) ∧ (c = 66 → posV v c = 1 ∧ (preV v).length = 2) ∧ (c = 67 → posV v c = (preV v).length + 1 ∧ (sufV v).length = 2) ∧ (c = 68 → posV v c = (preV v).length + (sufV v).length ∧ 1 ≤ (sufV v).length) ∧ (c = 120 → posV v c = (preV v).length) := by decide
/-- Which place of the row that is. -/
def offV (a m q : Nat) : Nat := if q ≤ a then q else q - 1 + m
def manyV (m : Nat) (c : UInt8) : Nat := if c = 120 then m else 1
theorem letV_off (v n : Nat) (hv : v < 16) (c : UInt8) (hc : c ∈ isV v) (h : (preV v).length + (sufV v).length ≤ n) :
    letV (preV v).length (sufV v).length n c = (List.range (manyV (n - ((preV v).length + (sufV v).length)) c)).map fun i => ((offV (preV v).length (n - ((preV v).length + (sufV v).length)) (posV v c) + i : Nat) : Int) := by
  obtain ⟨h1, h2, h3, h4, h5⟩ := posV_is v hv c hc
  have hm := isV_letters v hv c hc
  simp only [lettersAll, List.mem_cons, List.not_mem_nil, or_false] at hm
  generalize (preV v).length = a at *
  generalize (sufV v).length = b at *
  generalize posV v c = p at *
  unfold offV manyV letV
  rcases hm with rfl | rfl | rfl | rfl | rfl
  · obtain ⟨rfl, h1⟩ := h1 rfl
    simp
  · obtain ⟨rfl, rfl⟩ := h2 rfl
    simp
  · obtain ⟨rfl, rfl⟩ := h3 rfl
    simp
    rw [if_neg (by omega)]
    omega
  · obtain ⟨rfl, h1⟩ := h4 rfl
    simp
    split <;> omega
  · obtain rfl := h5 rfl
    simp [show n - b - p = n - (p + b) by omega]
theorem idx_str (o : ByteArray) (l : List UInt8) (ho : o = str l) (q : Nat) (d : UInt8) (h : l[q]? = some d) (D : Nat) (hD : D = d.toNat) (w : World) :
    (Instr.index 9 (.string o) (.int .i64 (q : Nat))).run Tryd.prog w = .ok (.int .u8 (D : Nat)) w := by
  subst ho hD
  obtain ⟨hlt, hg⟩ := List.getElem?_eq_some_iff.1 h
  have hs := str_size l
  rw [run_index_string w _ _ _ _ Tryd.underlying9, dif_pos ⟨by omega, by omega⟩]
  simp only [Int.toNat_natCast]
  have e : (str l)[q]'(by omega) = d := hg
  rw [e]
theorem offV_next {a m q : Nat} (h : ¬ q = a) : offV a m (q + 1) = offV a m q + 1 := by
  unfold offV
  split <;> split <;> omega
theorem offV_x (a m : Nat) : offV a m (a + 1) = offV a m a + m := by
  unfold offV
  rw [if_neg (by omega), if_pos (Nat.le_refl _)]
  omega
theorem offV_le (a m q : Nat) : offV a m q ≤ q + m := by
  unfold offV
  split <;> omega
set_option maxRecDepth 100000 in
set_option maxHeartbeats 3200000 in
theorem refvorder_any (z zn : Int) (w : World) (hn : zn ≤ 1000000) (hz0 : -9223372036854775808 ≤ zn) :
    Calls Tryd.prog 8 #[.int .i64 z, .int .i64 zn] w (OrdIs w.heap.size z zn w) := by
  have hAC := allocC
  have hAF := allocF
  by_cases h1 : z ≤ 0
  · have d1 : decide (z ≤ 0) = true := by simpa using h1
    have hno : ¬ okV z zn := fun h => by have := h.1; omega
    clear h1
    go_enter Tryd.func8, Tryd.ntmps8
    go_wp2_with fail
    go_ret2
    exact .inr ⟨hno, rfl, (by repeat (first | with_reducible exact brefl _ | with_reducible assumption | (with_reducible refine bset ?_ (by first | (simp; done) | (simp; omega)) _) | with_reducible refine balloc ?_ _ | with_reducible refine bdrew ?_ _ | with_reducible refine bdrew1 ?_ | with_reducible refine bthen ?_ (by assumption) | with_reducible refine Below.trans ?_ (by assumption) | exact brefl _ | assumption | refine balloc ?_ _ | refine bdrew ?_ _ | refine bdrew1 ?_ | refine bthen ?_ (by assumption) | refine Below.trans ?_ (by assumption) | (refine bset ?_ (by first | (simp; done) | (simp; omega)) _)))⟩
  have d1 : decide (z ≤ 0) = false := by simp; omega
  by_cases h2 : 16 ≤ z
  · have d2 : decide (16 ≤ z) = true := by simpa using h2
    have hno : ¬ okV z zn := fun h => by have := h.2.1; omega
    clear h1 h2
    go_enter Tryd.func8, Tryd.ntmps8
    go_wp2_with fail
    go_ret2
    exact .inr ⟨hno, rfl, (by repeat (first | with_reducible exact brefl _ | with_reducible assumption | (with_reducible refine bset ?_ (by first | (simp; done) | (simp; omega)) _) | with_reducible refine balloc ?_ _ | with_reducible refine bdrew ?_ _ | with_reducible refine bdrew1 ?_ | with_reducible refine bthen ?_ (by assumption) | with_reducible refine Below.trans ?_ (by assumption) | exact brefl _ | assumption | refine balloc ?_ _ | refine bdrew ?_ _ | refine bdrew1 ?_ | refine bthen ?_ (by assumption) | refine Below.trans ?_ (by assumption) | (refine bset ?_ (by first | (simp; done) | (simp; omega)) _)))⟩
  have d2 : decide (16 ≤ z) = false := by simp; omega
  obtain ⟨k, rfl⟩ : ∃ k : Nat, z = k := ⟨z.toNat, by omega⟩
  have hk : k < 16 := by omega
  have hk1 : 1 ≤ k := by omega
  have g1 := fromL_get k hk
  have g2 := toL_get k hk
  have s1 := str_size (wasV k)
  have s2 := str_size (isV k)
  have hl := wasV_len k hk hk1
  have hab := ends_len k hk
  obtain ⟨o1, ho1⟩ : ∃ o, o = str (wasV k) := ⟨_, rfl⟩
  obtain ⟨o2, ho2⟩ : ∃ o, o = str (isV k) := ⟨_, rfl⟩
  rw [← ho1] at g1 s1
  rw [← ho2] at g2 s2
  obtain ⟨a, ha⟩ : ∃ a, a = (preV k).length := ⟨_, rfl⟩
  obtain ⟨b, hb⟩ : ∃ b, b = (sufV k).length := ⟨_, rfl⟩
  rw [hl, ← ha, ← hb] at s1
  rw [← ha, ← hb] at hab
  have HO1 := Lib.hid ho1
  have HO2 := Lib.hid ho2
  have HA := Lib.hid ha
  have HB := Lib.hid hb
  have d1n : decide ((k : Int) ≤ 0) = false := d1
  clear ho1 ho2 ha hb hl h1 h2
  by_cases h3 : zn < (a : Int) + (b : Int)
  · have d3 : decide (zn < (a : Int) + (b : Int)) = true := by simpa using h3
    have hno : ¬ okV k zn := fun h => by
      have := h.2.2
      rw [Int.toNat_natCast, ← HA.out, ← HB.out] at this
      omega
    have HNO := Lib.hid hno
    clear h3 hno
    go_enter Tryd.func8, Tryd.ntmps8
    go_wp2_with fail
    go_ret2
    exact .inr ⟨HNO.out, rfl, (by repeat (first | with_reducible exact brefl _ | with_reducible assumption | (with_reducible refine bset ?_ (by first | (simp; done) | (simp; omega)) _) | with_reducible refine balloc ?_ _ | with_reducible refine bdrew ?_ _ | with_reducible refine bdrew1 ?_ | with_reducible refine bthen ?_ (by assumption) | with_reducible refine Below.trans ?_ (by assumption) | exact brefl _ | assumption | refine balloc ?_ _ | refine bdrew ?_ _ | refine bdrew1 ?_ | refine bthen ?_ (by assumption) | refine Below.trans ?_ (by assumption) | (refine bset ?_ (by first | (simp; done) | (simp; omega)) _)))⟩
  have d3 : decide (zn < (a : Int) + (b : Int)) = false := by simp; omega
  obtain ⟨n, rfl⟩ : ∃ n : Nat, zn = n := ⟨zn.toNat, by omega⟩
  have hn2 : n ≤ 1000000 := by omega
  have hok : okV k n := ⟨by omega, by omega, by rw [Int.toNat_natCast, ← HA.out, ← HB.out]; omega⟩
  have HOK := Lib.hid hok
  obtain ⟨m, hm⟩ : ∃ m : Nat, m = n - (a + b) := ⟨_, rfl⟩
  have hmz : (n : Int) - ((a : Int) + (b : Int)) = (m : Int) := by omega
  have hm2 : m + (a + b) = n := by omega
  have HMZ := Lib.hid hmz
  have HM := Lib.hid hm
  clear h3 hok hn hz0 hmz hm
  go_enter Tryd.func8, Tryd.ntmps8
  go_wp2_with fail
  rw [HMZ.out]
  obtain ⟨V, hV⟩ : ∃ V, V = (((w.alloc (Obj.cells #[.string ⟨#[]⟩, .string ⟨#[65, 120]⟩, .string ⟨#[120, 68]⟩, .string ⟨#[65, 120, 68]⟩, .string ⟨#[65, 66, 120]⟩, .string ⟨#[65, 66, 120]⟩, .string ⟨#[120, 67, 68]⟩, .string ⟨#[120, 67, 68]⟩, .string ⟨#[65, 120, 67, 68]⟩, .string ⟨#[65, 120, 67, 68]⟩, .string ⟨#[65, 66, 120, 68]⟩, .string ⟨#[65, 66, 120, 68]⟩, .string ⟨#[65, 66, 120, 67, 68]⟩, .string ⟨#[65, 66, 120, 67, 68]⟩, .string ⟨#[65, 66, 120, 67, 68]⟩, .string ⟨#[65, 66, 120, 67, 68]⟩] 9)).alloc (Obj.cells #[.string ⟨#[]⟩, .string ⟨#[120, 65]⟩, .string ⟨#[68, 120]⟩, .string ⟨#[68, 120, 65]⟩, .string ⟨#[120, 65, 66]⟩, .string ⟨#[120, 66, 65]⟩, .string ⟨#[67, 68, 120]⟩, .string ⟨#[68, 67, 120]⟩, .string ⟨#[67, 68, 120, 65]⟩, .string ⟨#[68, 67, 120, 65]⟩, .string ⟨#[68, 120, 65, 66]⟩, .string ⟨#[68, 120, 66, 65]⟩, .string ⟨#[67, 68, 120, 65, 66]⟩, .string ⟨#[67, 68, 120, 66, 65]⟩, .string ⟨#[68, 67, 120, 65, 66]⟩, .string ⟨#[68, 67, 120, 66, 65]⟩] 9)).alloc (Obj.cells #[] 3)) := ⟨_, rfl⟩
  have cf : V.cell? ⟨w.heap.size, k, none⟩ = some (.string o1) := by
    rw [hV, allocC, if_neg (by simp only [World.size_alloc]; omega), allocC, if_neg (by simp only [World.size_alloc]; omega), allocC, if_pos rfl, List.getElem?_toArray, List.getElem?_eq_getElem (by exact hk), g1]
  have ct : V.cell? ⟨w.heap.size + 1, k, none⟩ = some (.string o2) := by
    rw [hV, allocC, if_neg (by simp only [World.size_alloc]; omega), allocC, if_pos (by simp only [World.size_alloc]), List.getElem?_toArray, List.getElem?_eq_getElem (by exact hk), g2]
  have hbV : Below w.heap.size w V := by rw [hV]; exact (by repeat (first | with_reducible exact brefl _ | with_reducible assumption | (with_reducible refine bset ?_ (by first | (simp; done) | (simp; omega)) _) | with_reducible refine balloc ?_ _ | with_reducible refine bdrew ?_ _ | with_reducible refine bdrew1 ?_ | with_reducible refine bthen ?_ (by assumption) | with_reducible refine Below.trans ?_ (by assumption) | exact brefl _ | assumption | refine balloc ?_ _ | refine bdrew ?_ _ | refine bdrew1 ?_ | refine bthen ?_ (by assumption) | refine Below.trans ?_ (by assumption) | (refine bset ?_ (by first | (simp; done) | (simp; omega)) _)))
  have hzV : w.heap.size + 2 ≤ V.heap.size := by rw [hV]; simp
  have hIV : IRow (w.heap.size + 2) [] (.slice (some ⟨w.heap.size + 1 + 1, 0, none⟩) 0 0) V := by
    rw [hV]
    have := IRow.lit ((w.alloc (Obj.cells #[.string ⟨#[]⟩, .string ⟨#[65, 120]⟩, .string ⟨#[120, 68]⟩, .string ⟨#[65, 120, 68]⟩, .string ⟨#[65, 66, 120]⟩, .string ⟨#[65, 66, 120]⟩, .string ⟨#[120, 67, 68]⟩, .string ⟨#[120, 67, 68]⟩, .string ⟨#[65, 120, 67, 68]⟩, .string ⟨#[65, 120, 67, 68]⟩, .string ⟨#[65, 66, 120, 68]⟩, .string ⟨#[65, 66, 120, 68]⟩, .string ⟨#[65, 66, 120, 67, 68]⟩, .string ⟨#[65, 66, 120, 67, 68]⟩, .string ⟨#[65, 66, 120, 67, 68]⟩, .string ⟨#[65, 66, 120, 67, 68]⟩] 9)).alloc (Obj.cells #[.string ⟨#[]⟩, .string ⟨#[120, 65]⟩, .string ⟨#[68, 120]⟩, .string ⟨#[68, 120, 65]⟩, .string ⟨#[120, 65, 66]⟩, .string ⟨#[120, 66, 65]⟩, .string ⟨#[67, 68, 120]⟩, .string ⟨#[68, 67, 120]⟩, .string ⟨#[67, 68, 120, 65]⟩, .string ⟨#[68, 67, 120, 65]⟩, .string ⟨#[68, 120, 65, 66]⟩, .string ⟨#[68, 120, 66, 65]⟩, .string ⟨#[67, 68, 120, 65, 66]⟩, .string ⟨#[67, 68, 120, 66, 65]⟩, .string ⟨#[68, 67, 120, 65, 66]⟩, .string ⟨#[68, 67, 120, 66, 65]⟩] 9)) [] (w.heap.size + 2) (by simp) (Nat.zero_le _) #[] rfl
    simpa using this
  rw [← hV]
  have HCF := Lib.hid cf
  have HCT := Lib.hid ct
  have HBV := Lib.hid hbV
  have HIV := Lib.hid hIV
  have mixed : Tryd.prog.follows Departure.mixedOrders = true := by kernel_rfl
  clear hV cf ct hbV hIV g1 g2 hAC hAF
  go_loopw [9, 10] (fun v i wr => ∃ j : Nat, j ≤ (isV k).length ∧ i = .int .i64 (j : Nat) ∧ IRow (w.heap.size + 2) (ordP k n j) v wr ∧ Below (w.heap.size + 2) V wr) (fun _ i _ => (isV k).length - (RowKit.intOf i).toNat)
  case atStart => exact ⟨0, Nat.zero_le _, rfl, by rw [ordP_zero]; exact HIV.out, Below.refl _ _⟩
  case round =>
    obtain ⟨j, hj, rfl, hI, hb⟩ := hrel
    have HI := Lib.hid hI
    have HBR := Lib.hid hb
    have hzr := hb.size
    have cf := (hb.cell (p := ⟨w.heap.size, k, none⟩) (by show w.heap.size < _; omega)).trans HCF.out
    have ct := (hb.cell (p := ⟨w.heap.size + 1, k, none⟩) (by show w.heap.size + 1 < _; omega)).trans HCT.out
    clear hI hb
    have hL5 := isV_len k hk
    by_cases hlt : j < (isV k).length
    · have d4 : decide ((j : Int) < ((isV k).length : Nat)) = true := by simpa using hlt
      go_wp2_with fail
      have hcm := List.getElem_mem hlt
      have hcj := List.getElem?_eq_getElem hlt
      generalize (isV k)[j] = c at hcm hcj
      have hs := ordP_succ k n j c hcj
      have hlo := letV_off k n hk c hcm (by rw [← HA.out, ← HB.out]; omega)
      rw [← HA.out, ← HB.out, ← HM.out] at hlo
      rw [← HA.out, ← HB.out, hlo] at hs
      have hpl := posV_lt k hk c hcm
      have HPA := Lib.hid (posV_at k hk c hcm)
      have HPN := Lib.hid (posV_no k hk c hcm)
      have hmy : manyV m c ≤ 1000001 := by unfold manyV; split <;> omega
      have hlen : (ordP k n j).length ≤ 10000000 := by
        have h1 := ordP_len k n j
        have h2 := isV_len k hk
        have h3 : j * (n + 1) ≤ 5 * (n + 1) := Nat.mul_le_mul_right _ (by omega)
        omega
      obtain ⟨C, hC⟩ : ∃ C, C = c.toNat := ⟨_, rfl⟩
      have hx2 := idx_str o2 (isV k) HO2.out j c hcj C hC
      have HX := Lib.hid (fun q hq => wasV_x k hk q hq)
      have HWL := Lib.hid (wasV_len k hk hk1)
      rw [HWL.out, ← HA.out, ← HB.out] at hpl
      have HCC := Lib.hid hC
      obtain ⟨p, hp⟩ : ∃ p, p = posV k c := ⟨_, rfl⟩
      rw [← hp] at hpl HPA HPN hs
      have HS := Lib.hid hs
      clear hcm hcj hlo hC hp hs
      go_loopw [11, 12] (fun at' kk wq => ∃ q : Nat, q ≤ p ∧ kk = .int .i64 (q : Nat) ∧ at' = .int .i64 ((offV a m q : Nat) : Int) ∧ IRow (w.heap.size + 2) (ordP k n j) u9 wq ∧ Below (w.heap.size + 2) V wq) (fun _ kk _ => p - (RowKit.intOf kk).toNat)
      case atStart => exact ⟨0, Nat.zero_le _, rfl, rfl, HI.out, HBR.out⟩
      case round =>
        obtain ⟨q, hq, rfl, rfl, hI2, hb2⟩ := hrel
        rename World => wq
        have hz2 := hb2.size
        have hb3 : Below (w.heap.size + 2) V wq.drew := hb2.drew
        have HI2 := Lib.hid (hI2.below (bdrew1 (brefl wq)))
        have HB2 := Lib.hid hb3
        have cf2 := (hb2.cell (p := ⟨w.heap.size, k, none⟩) (by show w.heap.size < _; omega)).trans HCF.out
        have ct2 := (hb2.cell (p := ⟨w.heap.size + 1, k, none⟩) (by show w.heap.size + 1 < _; omega)).trans HCT.out
        have hoff := offV_le a m q
        clear hI2 hb2 hb3
        obtain ⟨d, hd⟩ : ∃ d, (wasV k)[q]? = some d := ⟨_, List.getElem?_eq_getElem (by rw [HWL.out, ← HA.out, ← HB.out]; omega)⟩
        obtain ⟨D, hD⟩ : ∃ D, D = d.toNat := ⟨_, rfl⟩
        have hx1 := idx_str o1 (wasV k) HO1.out q d hd D hD
        by_cases hqp : q = p
        · subst hqp
          have hdc : D = C := by
            have := HPA.out
            rw [hd] at this
            injection this with this
            rw [hD, HCC.out, this]
          have dd : ((D : Int) == (C : Int)) = true := by rw [hdc]; simp
          have dn : ((D : Int) != (C : Int)) = false := by rw [bne, dd]; rfl
          have hoffX : offV a m q ≤ 2000000 := by omega
          generalize offV a m q = X at *
          clear hd hD hdc hoff
          by_cases hcx : c = 120
          · have dcx : ((C : Int) == 120) = true := by rw [HCC.out, hcx]; rfl
            have hm0 : manyV m c = m := by unfold manyV; rw [if_pos hcx]
            have hs := HS.out
            rw [hm0] at hs
            have HS := Lib.hid hs
            clear hs hm0 hcx
            go_wp2_with fail
            go_region_o
            go_wp2_with fail
            go_loopw [9, 14] (fun v r wz => ∃ i : Nat, i ≤ m ∧ r = .int .i64 (i : Nat) ∧ IRow (w.heap.size + 2) (ordP k n j ++ (List.range i).map fun i => ((X + i : Nat) : Int)) v wz ∧ Below (w.heap.size + 2) V wz) (fun _ r _ => m - (RowKit.intOf r).toNat)
            case atStart => exact ⟨0, Nat.zero_le _, rfl, by simpa using HI2.out, HB2.out⟩
            case round =>
              obtain ⟨i, hi, rfl, hI3, hb3⟩ := hrel
              rename World => wz
              have HI3 := Lib.hid hI3
              have HB3 := Lib.hid hb3
              have hz3 := hb3.size
              clear hI3 hb3
              by_cases hil : i < m
              · have d5 : decide ((i : Int) < (m : Nat)) = true := by simp; omega
                go_wp2_with (at_builtin; refine wpAppI rfl _ _ rfl (w.heap.size + 2) _ (ordP k n j ++ (List.range i).map fun i => ((X + i : Nat) : Int)) [(X : Int) + (i : Int)] rfl (HI3.out.below (balloc (brefl _) _)) (some ⟨wz.heap.size, 0, none⟩) 1 1 rfl rfl (has_alloc wz _ _) (fun h => by cases h) (by simp; omega) (by simp; omega) ?_; intro v4 w4 hI4 hb4 hg4; clear hg4; have HI4 := Lib.hid hI4; have HB4 := Lib.hid ((HB3.out.alloc (by omega) _).trans hb4); clear hI4 hb4)
                go_roundw
                case rel => exact ⟨i + 1, by omega, by go_num, by rw [List.range_succ, List.map_append, ← List.append_assoc]; exact HI4.out, HB4.out⟩
                case measure => simp only [RowKit.intOf]; omega
              · have hiY : m = i := by omega
                subst hiY
                have d5 : decide (((m : Nat) : Int) < ((m : Nat) : Int)) = false := by simp
                go_wp2_with fail
                go_roundw
                case rel => exact ⟨j + 1, hlt, by go_num, by rw [HS.out]; exact HI3.out, HB3.out⟩
                case measure => simp only [RowKit.intOf]; omega
          · have dcx : ((C : Int) == 120) = false := by
              rw [HCC.out]
              simp only [beq_eq_false_iff_ne, ne_eq]
              intro h
              exact hcx (UInt8.toNat_inj.1 (by show c.toNat = 120; omega))
            have hm0 : manyV m c = 1 := by unfold manyV; rw [if_neg hcx]
            have hs := HS.out
            rw [hm0] at hs
            have HS := Lib.hid hs
            clear hs hm0 hcx
            go_wp2_with fail
            go_region_o
            go_wp2_with fail
            go_loopw [9, 14] (fun v r wz => ∃ i : Nat, i ≤ 1 ∧ r = .int .i64 (i : Nat) ∧ IRow (w.heap.size + 2) (ordP k n j ++ (List.range i).map fun i => ((X + i : Nat) : Int)) v wz ∧ Below (w.heap.size + 2) V wz) (fun _ r _ => 1 - (RowKit.intOf r).toNat)
            case atStart => exact ⟨0, Nat.zero_le _, rfl, by simpa using HI2.out, HB2.out⟩
            case round =>
              obtain ⟨i, hi, rfl, hI3, hb3⟩ := hrel
              rename World => wz
              have HI3 := Lib.hid hI3
              have HB3 := Lib.hid hb3
              have hz3 := hb3.size
              clear hI3 hb3
              by_cases hil : i < 1
              · have d5 : decide ((i : Int) < (1 : Nat)) = true := by simp; omega
                go_wp2_with (at_builtin; refine wpAppI rfl _ _ rfl (w.heap.size + 2) _ (ordP k n j ++ (List.range i).map fun i => ((X + i : Nat) : Int)) [(X : Int) + (i : Int)] rfl (HI3.out.below (balloc (brefl _) _)) (some ⟨wz.heap.size, 0, none⟩) 1 1 rfl rfl (has_alloc wz _ _) (fun h => by cases h) (by simp; omega) (by simp; omega) ?_; intro v4 w4 hI4 hb4 hg4; clear hg4; have HI4 := Lib.hid hI4; have HB4 := Lib.hid ((HB3.out.alloc (by omega) _).trans hb4); clear hI4 hb4)
                go_roundw
                case rel => exact ⟨i + 1, by omega, by go_num, by rw [List.range_succ, List.map_append, ← List.append_assoc]; exact HI4.out, HB4.out⟩
                case measure => simp only [RowKit.intOf]; omega
              · have hiY : 1 = i := by omega
                subst hiY
                have d5 : decide (((1 : Nat) : Int) < ((1 : Nat) : Int)) = false := by simp
                go_wp2_with fail
                go_roundw
                case rel => exact ⟨j + 1, hlt, by go_num, by rw [HS.out]; exact HI3.out, HB3.out⟩
                case measure => simp only [RowKit.intOf]; omega
        · have hdc : ¬ D = C := by
            intro h
            have := HPN.out q (by omega)
            rw [hd] at this
            apply this
            rw [UInt8.toNat_inj.1 (show d.toNat = c.toNat by rw [← hD, ← HCC.out, h])]
          have dd : ((D : Int) == (C : Int)) = false := by simp; omega
          by_cases hqa : q = a
          · have dx : ((D : Int) == 120) = true := by
              have := (HX.out q (by rw [HWL.out, ← HA.out, ← HB.out]; omega)).2 (by rw [hqa]; exact HA.out)
              rw [hd] at this
              injection this with this
              rw [hD, this]
              rfl
            have HQA := Lib.hid hqa
            clear hd hD hdc hqa
            go_wp2_with fail
            go_region_o
            go_wp2_with fail
            go_roundw
            case rel => exact ⟨q + 1, by omega, by go_num, by rw [HQA.out, offV_x]; go_num, HI2.out, HB2.out⟩
            case measure => simp only [RowKit.intOf]; omega
          · have dx : ((D : Int) == 120) = false := by
              simp only [beq_eq_false_iff_ne, ne_eq]
              intro h
              apply hqa
              rw [HA.out]
              refine (HX.out q (by rw [HWL.out, ← HA.out, ← HB.out]; omega)).1 ?_
              rw [hd, UInt8.toNat_inj.1 (show d.toNat = (120 : UInt8).toNat by show d.toNat = 120; omega)]
            clear hd hD hdc
            go_wp2_with fail
            go_region_o
            go_wp2_with fail
            go_roundw
            case rel => exact ⟨q + 1, by omega, by go_num, by rw [offV_next hqa]; go_num, HI2.out, HB2.out⟩
            case measure => simp only [RowKit.intOf]; omega
    · obtain rfl : j = (isV k).length := by omega
      have HE := Lib.hid (ordP_all k n (isV k).length (Nat.le_refl _))
      have d4 : decide (((isV k).length : Int) < ((isV k).length : Nat)) = false := by simp
      go_wp2_with fail
      go_ret2
      exact .inl ⟨HOK.out, _, rfl, by rw [Int.toNat_natCast, Int.toNat_natCast, ← HE.out]; exact HI.out.mono (by omega), HBV.out.trans (HBR.out.mono (by omega))⟩
end Go.Proofs.YtonogcbcjmdmhaaDoor
