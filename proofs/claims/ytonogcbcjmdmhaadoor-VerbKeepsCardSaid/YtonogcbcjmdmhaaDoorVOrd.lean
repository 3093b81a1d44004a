
/- Which order a verb gives: verb.Order. Conditions: the table of verbs lies in memory; sizes. -/
import Derived.Test.YtonogcbcjmdmhaaDoorVTab
import Derived.Lib.OthersKept
namespace Go.Proofs.YtonogcbcjmdmhaaDoor
open Go.RowKit Go.Lib

theorem next_letter (w : World) (it : Nat) (o : ByteArray) (l : List UInt8) (j : Nat) (c : UInt8) (z : Int) (hit : w.heap[it]? = some (.stringIter o j)) (ho : o = str l) (hj : l[j]? = some c) (hc : c.toNat < 128) (hz : z = (c.toNat : Nat)) (ty : TypeId) :
    (Instr.next (.pointer (some ⟨it, 0, none⟩)) true ty).run Tryd.prog w = .ok (.tuple #[.bool true, .int .i64 (j : Nat), .int .i32 z]) (w.iterAt it o (j + 1)) := by
  subst ho hz
  obtain ⟨hlt, hg⟩ := List.getElem?_eq_some_iff.1 hj
  have hs : j < (str l).size := by rw [str_size]; exact hlt
  have e : (str l)[j]'hs = c := hg
  have := Lib.run_next_ascii_at (P := Tryd.prog) w it (str l) j ty hit hs (by rw [e]; exact hc)
  rw [e] at this
  exact this
theorem next_over (w : World) (it : Nat) (o : ByteArray) (l : List UInt8) (j : Nat) (hit : w.heap[it]? = some (.stringIter o j)) (ho : o = str l) (hj : l.length ≤ j) (ty : TypeId) :
    (Instr.next (.pointer (some ⟨it, 0, none⟩)) true ty).run Tryd.prog w = .ok (.tuple #[.bool false]) w :=
  Lib.run_next_end_at (P := Tryd.prog) w it o j ty hit (by subst ho; rw [str_size]; omega)
theorem IRow.apart {B : Nat} {l : List Int} {v : Value} {w : World} (h : IRow B l v w) {it : Nat} {o : ByteArray} {j : Nat} (hit : w.heap[it]? = some (.stringIter o j)) : some it ≠ v.ownBlock := by
  obtain ⟨a, c, rfl, h2⟩ := h
  rcases h2.2 with ⟨hv, _⟩ | ⟨g, cap, cur, hv, _, hh, _⟩
  · rw [hv]; simp [Value.ownBlock]
  · rw [hv]
    simp only [Value.ownBlock, ne_eq, Option.some.injEq]
    rintro rfl
    rw [hit] at hh
    cases hh
theorem IRow.iterAt {B : Nat} {l : List Int} {v : Value} {w : World} (h : IRow B l v w) {it : Nat} {o : ByteArray} {j : Nat} (hit : w.heap[it]? = some (.stringIter o j)) (hB : B ≤ it) (j' : Nat) : IRow B l v (w.iterAt it o j') :=
  h.other (Lib.below_iterAt (Below.refl _ _) hB o j') fun g hg => Lib.iterAt_other w it g o j' (by rintro rfl; exact h.apart hit hg.symm)
theorem iter_alloc {w : World} {it : Nat} {o : ByteArray} {j : Nat} (hit : w.heap[it]? = some (.stringIter o j)) (x : Obj) : (w.alloc x).heap[it]? = some (.stringIter o j) := by
  rw [heap_push, if_neg (by have := (Array.getElem?_eq_some_iff.1 hit).1; omega)]
  exact hit
theorem wpAppIt {w : World} {ops : Array Oper} {rest : List Oper} {o : Oper} {a : Act} {Q : Exit → Act → World → Prop} (hgd : o.guard = none) (s x : Operand)
    (ho : o.op = .call { callee := .builtin .append, args := #[s, x], argTypes := #[23, 23] }) (B : Nat) (v : Value) (l m : List Int) (hs : a.eval s = v) (hown : IRow B l v w)
    (A : Option Addr) (k c : Nat) (hx : a.eval x = .slice A k c) (hk : m.length = k) (hh : Has w A (iv m)) (hA : A = none → c = 0) (hsz : l.length + k ≤ 1000000000) (hB : B ≤ w.heap.size) (it : Nat) (so : ByteArray) (j : Nat) (hit : w.heap[it]? = some (.stringIter so j))
    (h' : ∀ v' w', IRow B (l ++ m) v' w' → Below B w w' → w'.heap[it]? = some (.stringIter so j) → wpList Tryd.prog ops Q rest (a.put o.dst v') w') : wpList Tryd.prog ops Q (o :: rest) a w :=
  wpAppI hgd s x ho B v l m hs hown A k c hx hk hh hA hsz hB fun v' w' h1 h2 h3 => h' v' w' h1 h2 ((h3.block it (Array.getElem?_eq_some_iff.1 hit).1 (hown.apart hit)).trans hit)
set_option maxRecDepth 100000 in
set_option maxHeartbeats 3200000 in
theorem vorder_any (z zn : Int) (w : World) (hV : VerbsIn w) (hn : zn ≤ 1000000) (hz0 : -9223372036854775808 ≤ zn) :
    Calls Tryd.prog 7 #[.int .i64 z, .int .i64 zn] w (OrdIs w.heap.size z zn w) := by
  have hAC := allocC
  have hAF := allocF
  have d268 : decide ((268435455 : Int) < zn) = false := by simp; omega
  by_cases h1 : z < 1
  · have d1 : decide (z < 1) = true := by simpa using h1
    have hno : ¬ okV z zn := fun h => by have := h.1; omega
    clear hV h1 d268
    go_enter Tryd.func7, Tryd.ntmps7
    go_wp2_with fail
    go_ret2
    exact .inr ⟨hno, rfl, (by repeat (first | with_reducible exact brefl _ | with_reducible assumption | (with_reducible refine bset ?_ (by first | (simp; done) | (simp; omega)) _) | with_reducible refine balloc ?_ _ | with_reducible refine bdrew ?_ _ | with_reducible refine bdrew1 ?_ | with_reducible refine bthen ?_ (by assumption) | with_reducible refine Below.trans ?_ (by assumption) | exact brefl _ | assumption | refine balloc ?_ _ | refine bdrew ?_ _ | refine bdrew1 ?_ | refine bthen ?_ (by assumption) | refine Below.trans ?_ (by assumption) | (refine bset ?_ (by first | (simp; done) | (simp; omega)) _)))⟩
  have d1 : decide (z < 1) = false := by simp; omega
  by_cases h2 : 16 ≤ z
  · have d2 : decide (16 ≤ z) = true := by simpa using h2
    have hno : ¬ okV z zn := fun h => by have := h.2.1; omega
    clear hV h1 h2 d268
    go_enter Tryd.func7, Tryd.ntmps7
    go_wp2_with fail
    go_ret2
    exact .inr ⟨hno, rfl, (by repeat (first | with_reducible exact brefl _ | with_reducible assumption | (with_reducible refine bset ?_ (by first | (simp; done) | (simp; omega)) _) | with_reducible refine balloc ?_ _ | with_reducible refine bdrew ?_ _ | with_reducible refine bdrew1 ?_ | with_reducible refine bthen ?_ (by assumption) | with_reducible refine Below.trans ?_ (by assumption) | exact brefl _ | assumption | refine balloc ?_ _ | refine bdrew ?_ _ | refine bdrew1 ?_ | refine bthen ?_ (by assumption) | refine Below.trans ?_ (by assumption) | (refine bset ?_ (by first | (simp; done) | (simp; omega)) _)))⟩
  have d2 : decide (16 ≤ z) = false := by simp; omega
  obtain ⟨k, rfl⟩ : ∃ k : Nat, z = k := ⟨z.toNat, by omega⟩
  have hk : k < 16 := by omega
  have hk1 : 1 ≤ k := by omega
  have c0 := hV.was k hk
  have c1 := hV.is k hk
  rw [show wasV k = preV k ++ 120 :: sufV k by unfold wasV; rw [if_neg (by omega)]] at c0
  have HV := Lib.hid hV
  have HCUT := Lib.hid (fun w => cut_any (preV k) (sufV k) (preV_x k hk) (by have := ends_len k hk; omega) w)
  have s1 := str_size (preV k)
  have s2 := str_size (sufV k)
  have hab := ends_len k hk
  obtain ⟨o1, ho1⟩ : ∃ o, o = str (preV k ++ 120 :: sufV k) := ⟨_, rfl⟩
  obtain ⟨o2, ho2⟩ : ∃ o, o = str (isV k) := ⟨_, rfl⟩
  obtain ⟨S1, hS1⟩ : ∃ o, o = str (preV k) := ⟨_, rfl⟩
  obtain ⟨S2, hS2⟩ : ∃ o, o = str (sufV k) := ⟨_, rfl⟩
  rw [← ho1] at c0 HCUT
  rw [← ho2] at c1
  rw [← hS1] at s1 HCUT
  rw [← hS2] at s2 HCUT
  obtain ⟨a, ha⟩ : ∃ a, a = (preV k).length := ⟨_, rfl⟩
  obtain ⟨b, hb⟩ : ∃ b, b = (sufV k).length := ⟨_, rfl⟩
  rw [← ha] at s1 hab
  rw [← hb] at s2 hab
  have hg := HV.out.lt
  have hK16 : decide (k < 16) = true := by simp; omega
  have hK16i : decide ((k : Int) < 16) = true := by simp; omega
  have hK0i : decide ((0 : Int) ≤ (k : Int)) = true := by simp
  have HO2 := Lib.hid ho2
  have HA := Lib.hid ha
  have HB := Lib.hid hb
  clear hV h1 h2 ho1 ho2 hS1 hS2 ha hb
  by_cases h3 : zn < (a : Int) + (b : Int)
  · have d3 : decide (zn < (a : Int) + (b : Int)) = true := by simpa using h3
    have hno : ¬ okV k zn := fun h => by
      have := h.2.2
      rw [Int.toNat_natCast, ← HA.out, ← HB.out] at this
      omega
    have HNO := Lib.hid hno
    clear h3 hno d268
    go_enter Tryd.func7, Tryd.ntmps7
    go_wp2_with (go_at_call 9; (with_reducible refine (HCUT.out _).mono ?_); rintro e w1 ⟨rfl, hb1⟩; have h1c := bc hb1; have h1f := bf hb1; have h1z := hb1.size)
    go_ret2
    exact .inr ⟨HNO.out, rfl, hb1⟩
  have d3 : decide (zn < (a : Int) + (b : Int)) = false := by simp; omega
  obtain ⟨n, rfl⟩ : ∃ n : Nat, zn = n := ⟨zn.toNat, by omega⟩
  have hn2 : n ≤ 1000000 := by omega
  have hok : okV k n := ⟨by omega, by omega, by rw [Int.toNat_natCast, ← HA.out, ← HB.out]; omega⟩
  have HOK := Lib.hid hok
  have habn : a + b ≤ n := by omega
  clear h3 hok hn hz0
  go_enter Tryd.func7, Tryd.ntmps7
  go_wp2_with (first
    | (go_at_call 9; (with_reducible refine (HCUT.out _).mono ?_); rintro e w1 ⟨rfl, hb1⟩; have h1c := bc hb1; have h1f := bf hb1; have h1z := hb1.size)
    | (refine wpMakeI rfl _ _ rfl n rfl rfl (by omega) ?_; intro v2 w2 hI2 hb2; have HI2 := Lib.hid hI2; have h2c := bc hb2; have h2f := bf hb2; have h2z := hb2.size; clear hI2))
  obtain ⟨wi, hwi⟩ : ∃ wi, wi = w2.iter o2 0 := ⟨_, rfl⟩
  have hit := World.iter_heap w2 o2 0
  have hbi : Below w.heap.size w wi := by rw [hwi]; exact bthen (bthen (brefl _) hb1) hb2 |>.alloc (by omega) _
  have hIi : IRow w.heap.size [] v2 wi := by rw [hwi]; exact (HI2.out.below (balloc (brefl _) _)).mono hb1.size
  rw [← hwi] at hit ⊢
  have hwit : w.heap.size ≤ w2.heap.size := by omega
  obtain ⟨it, hii⟩ : ∃ it, it = w2.heap.size := ⟨_, rfl⟩
  rw [← hii] at hit hwit ⊢
  have HIT := Lib.hid hit
  have HBI := Lib.hid hbi
  have HII := Lib.hid hIi
  clear hwi hit hbi hIi hii h1c h1f h1z h2c h2f h2z hb1 hb2 HI2 c0 c1 HV HCUT
  go_loopw [9] (fun v wr => ∃ j : Nat, j ≤ (isV k).length ∧ IRow w.heap.size (ordP k n j) v wr ∧ wr.heap[it]? = some (.stringIter o2 j) ∧ Below w.heap.size w wr) (fun _ wr => (isV k).length - wr.iterPos it)
  case atStart => exact ⟨0, Nat.zero_le _, by rw [ordP_zero]; exact HII.out, HIT.out, HBI.out⟩
  case round =>
    obtain ⟨j, hj, hI, hit, hb⟩ := hrel
    have HI := Lib.hid hI
    have HIT2 := Lib.hid hit
    have HBR := Lib.hid hb
    have hzr := hb.size
    clear hI hb
    by_cases hlt : j < (isV k).length
    · have hcm := isV_letters k hk _ (List.getElem_mem hlt)
      have hcj := List.getElem?_eq_getElem hlt
      generalize (isV k)[j] = c at hcm hcj
      have HS := Lib.hid (ordP_succ k n j c hcj)
      simp only [lettersAll, List.mem_cons, List.not_mem_nil, or_false] at hcm
      have hbr1 := Lib.below_iterAt HBR.out hwit o2 (j + 1)
      have HI1 := Lib.hid (HI.out.iterAt hit hwit (j + 1))
      have HIT3 := Lib.hid (Lib.iterAt_heap wr it o2 j (j + 1) hit)
      have HBR1 := Lib.hid hbr1
      have hlen : (ordP k n j).length ≤ 10000000 := by
        have h1 := ordP_len k n j
        have h2 := isV_len k hk
        have h3 : j * (n + 1) ≤ 5 * (n + 1) := Nat.mul_le_mul_right _ (by omega)
        omega
      have HNX := Lib.hid (fun z hz ty => next_letter wr it o2 (isV k) j c z hit HO2.out hcj (by rcases hcm with rfl | rfl | rfl | rfl | rfl <;> decide) hz ty)
      clear hbr1 hit
      rcases hcm with rfl | rfl | rfl | rfl | rfl
      · have hnx := HNX.out 65 rfl
        obtain ⟨wx, hwx⟩ : ∃ wx, wx = wr.iterAt it o2 (j + 1) := ⟨_, rfl⟩
        rw [← hwx] at hnx HI1 HIT3 HBR1
        clear hwx HNX
        go_wp2_with (at_builtin; refine wpAppIt rfl _ _ rfl w.heap.size _ (ordP k n j) [0] rfl (HI1.out.below (balloc (brefl _) _)) (some ⟨wx.heap.size, 0, none⟩) 1 1 rfl rfl (has_alloc wx _ _) (fun h => by cases h) (by omega) (by have := HBR1.out.size; simp; omega) it o2 (j + 1) (iter_alloc HIT3.out _) ?_; intro v3 w3 hI3 hb3 hit3; have HI3 := Lib.hid hI3; have HIT4 := Lib.hid hit3; have HB3 := Lib.hid ((HBR1.out.alloc HBR1.out.size _).trans hb3); clear hI3 hit3 hb3)
        go_roundw
        case rel => exact ⟨j + 1, hlt, by rw [HS.out]; exact (show letV (preV k).length (sufV k).length n 65 = [0] by rfl) ▸ HI3.out, HIT4.out, HB3.out⟩
        case measure => simp only [World.iterPos, HIT4.out, HIT2.out]; omega
      · have hnx := HNX.out 66 rfl
        obtain ⟨wx, hwx⟩ : ∃ wx, wx = wr.iterAt it o2 (j + 1) := ⟨_, rfl⟩
        rw [← hwx] at hnx HI1 HIT3 HBR1
        clear hwx HNX
        go_wp2_with (at_builtin; refine wpAppIt rfl _ _ rfl w.heap.size _ (ordP k n j) [1] rfl (HI1.out.below (balloc (brefl _) _)) (some ⟨wx.heap.size, 0, none⟩) 1 1 rfl rfl (has_alloc wx _ _) (fun h => by cases h) (by omega) (by have := HBR1.out.size; simp; omega) it o2 (j + 1) (iter_alloc HIT3.out _) ?_; intro v3 w3 hI3 hb3 hit3; have HI3 := Lib.hid hI3; have HIT4 := Lib.hid hit3; have HB3 := Lib.hid ((HBR1.out.alloc HBR1.out.size _).trans hb3); clear hI3 hit3 hb3)
        go_roundw
        case rel => exact ⟨j + 1, hlt, by rw [HS.out]; exact (show letV (preV k).length (sufV k).length n 66 = [1] by rfl) ▸ HI3.out, HIT4.out, HB3.out⟩
        case measure => simp only [World.iterPos, HIT4.out, HIT2.out]; omega
      · have hnx := HNX.out 67 rfl
        obtain ⟨wx, hwx⟩ : ∃ wx, wx = wr.iterAt it o2 (j + 1) := ⟨_, rfl⟩
        rw [← hwx] at hnx HI1 HIT3 HBR1
        clear hwx HNX
        go_wp2_with (at_builtin; refine wpAppIt rfl _ _ rfl w.heap.size _ (ordP k n j) [(n : Int) - 1 - 1] rfl (HI1.out.below (balloc (brefl _) _)) (some ⟨wx.heap.size, 0, none⟩) 1 1 rfl rfl (has_alloc wx _ _) (fun h => by cases h) (by omega) (by have := HBR1.out.size; simp; omega) it o2 (j + 1) (iter_alloc HIT3.out _) ?_; intro v3 w3 hI3 hb3 hit3; have HI3 := Lib.hid hI3; have HIT4 := Lib.hid hit3; have HB3 := Lib.hid ((HBR1.out.alloc HBR1.out.size _).trans hb3); clear hI3 hit3 hb3)
        go_roundw
        case rel => exact ⟨j + 1, hlt, by rw [HS.out]; exact (show letV (preV k).length (sufV k).length n 67 = [(n : Int) - 1 - 1] by show [(n : Int) - 2] = _; congr 1; omega) ▸ HI3.out, HIT4.out, HB3.out⟩
        case measure => simp only [World.iterPos, HIT4.out, HIT2.out]; omega
      · have hnx := HNX.out 68 rfl
        obtain ⟨wx, hwx⟩ : ∃ wx, wx = wr.iterAt it o2 (j + 1) := ⟨_, rfl⟩
        rw [← hwx] at hnx HI1 HIT3 HBR1
        clear hwx HNX
        go_wp2_with (at_builtin; refine wpAppIt rfl _ _ rfl w.heap.size _ (ordP k n j) [(n : Int) - 1] rfl (HI1.out.below (balloc (brefl _) _)) (some ⟨wx.heap.size, 0, none⟩) 1 1 rfl rfl (has_alloc wx _ _) (fun h => by cases h) (by omega) (by have := HBR1.out.size; simp; omega) it o2 (j + 1) (iter_alloc HIT3.out _) ?_; intro v3 w3 hI3 hb3 hit3; have HI3 := Lib.hid hI3; have HIT4 := Lib.hid hit3; have HB3 := Lib.hid ((HBR1.out.alloc HBR1.out.size _).trans hb3); clear hI3 hit3 hb3)
        go_roundw
        case rel => exact ⟨j + 1, hlt, by rw [HS.out]; exact (show letV (preV k).length (sufV k).length n 68 = [(n : Int) - 1] by rfl) ▸ HI3.out, HIT4.out, HB3.out⟩
        case measure => simp only [World.iterPos, HIT4.out, HIT2.out]; omega
      · have hnx := HNX.out 120 rfl
        obtain ⟨wx, hwx⟩ : ∃ wx, wx = wr.iterAt it o2 (j + 1) := ⟨_, rfl⟩
        rw [← hwx] at hnx HI1 HIT3 HBR1
        clear hwx HNX
        go_wp2_with fail
        go_loopw [9, 12] (fun v i wq => ∃ q : Nat, q ≤ n - b - a ∧ i = .int .i64 ((a : Int) + (q : Int)) ∧ IRow w.heap.size (ordP k n j ++ (List.range q).map fun i => ((a + i : Nat) : Int)) v wq ∧ wq.heap[it]? = some (.stringIter o2 (j + 1)) ∧ Below w.heap.size w wq) (fun _ i _ => n - (RowKit.intOf i).toNat)
        case atStart => exact ⟨0, Nat.zero_le _, by simp, by simpa using HI1.out, HIT3.out, HBR1.out⟩
        case round =>
          obtain ⟨q, hq, rfl, hI, hit, hb⟩ := hrel
          have HIQ := Lib.hid hI
          have HITQ := Lib.hid hit
          have HBQ := Lib.hid hb
          have hzq := hb.size
          clear hI hit hb
          by_cases hlq : q < n - b - a
          · have d5 : decide ((a : Int) + (q : Int) < (n : Int) - (b : Int)) = true := by simp; omega
            rename World => wq
            go_wp2_with (at_builtin; refine wpAppIt rfl _ _ rfl w.heap.size _ (ordP k n j ++ (List.range q).map fun i => ((a + i : Nat) : Int)) [(a : Int) + (q : Int)] rfl (HIQ.out.below (balloc (brefl _) _)) (some ⟨wq.heap.size, 0, none⟩) 1 1 rfl rfl (has_alloc wq _ _) (fun h => by cases h) (by simp; omega) (by simp; omega) it o2 (j + 1) (iter_alloc HITQ.out _) ?_; intro v3 w3 hI3 hb3 hit3; have HI3 := Lib.hid hI3; have HIT4 := Lib.hid hit3; have HB3 := Lib.hid ((HBQ.out.alloc HBQ.out.size _).trans hb3); clear hI3 hit3 hb3)
            go_roundw
            case rel => exact ⟨q + 1, by omega, by go_num, by rw [List.range_succ, List.map_append, ← List.append_assoc]; exact HI3.out, HIT4.out, HB3.out⟩
            case measure => simp only [RowKit.intOf]; omega
          · obtain rfl : q = n - b - a := by omega
            have d5 : decide ((a : Int) + ((n - b - a : Nat) : Int) < (n : Int) - (b : Int)) = false := by simp; omega
            go_wp2_with fail
            go_roundw
            case rel => exact ⟨j + 1, hlt, by rw [HS.out, ← HA.out, ← HB.out]; exact HIQ.out, HITQ.out, HBQ.out⟩
            case measure => simp only [World.iterPos, HITQ.out, HIT2.out]; omega
    · have hnx := fun ty => next_over wr it o2 (isV k) j hit HO2.out (by omega) ty
      have HE := Lib.hid (ordP_all k n j (by omega))
      clear hit
      go_wp2_with fail
      go_ret2
      exact .inl ⟨HOK.out, _, rfl, by rw [Int.toNat_natCast, Int.toNat_natCast, ← HE.out]; exact HI.out, HBR.out⟩
end Go.Proofs.YtonogcbcjmdmhaaDoor
