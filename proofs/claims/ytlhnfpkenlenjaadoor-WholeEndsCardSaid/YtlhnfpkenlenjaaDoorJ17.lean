/- Joined from: VRow VTab VOrd VOrdF VSpk VOrdB VLift. -/
import Derived.Test.YtlhnfpkenlenjaaDoorJ16
import Derived.Test.YtlhnfpkenlenjaaDoorJ01
import Derived.Test.YtlhnfpkenlenjaaDoorJ04
import Derived.Test.YtlhnfpkenlenjaaDoorJ15
import Derived.Lib.OthersKept
import Derived.Test.YtlhnfpkenlenjaaDoorJ02
import Derived.LaidMore
import Derived.Stop.Joined
import Derived.ChangeSame
section

/- Rows of numbers that a call makes: append, make. Conditions: sizes. -/
namespace Go.Proofs.YtlhnfpkenlenjaaDoor
open Go.RowKit Go.Lib

theorem info_int : (Tryd.prog.info? 3).map (fun i => (i.zero, i.size, i.bytes)) = some (some (.int .i64 0), 1, 8) := by kernel_rfl
def IRow (B : Nat) (l : List Int) (v : Value) (w : World) : Prop := ∃ a c, v = .slice a l.length c ∧ w.ownsRow B 3 1 (.slice a l.length c) l.length (iv l)
theorem IRow.below {B : Nat} {l : List Int} {v : Value} {w w' : World} (h : IRow B l v w) (hb : Below w.heap.size w w') : IRow B l v w' := by
  obtain ⟨a, c, h1, h2⟩ := h
  exact ⟨a, c, h1, owns_below h2 hb (Nat.le_refl _)⟩
theorem IRow.mono {B B' : Nat} {l : List Int} {v : Value} {w : World} (h : IRow B l v w) (hb : B' ≤ B) : IRow B' l v w := by
  obtain ⟨a, c, h1, h2⟩ := h
  exact ⟨a, c, h1, owns_mono h2 hb⟩
theorem IRow.has {B : Nat} {l : List Int} {a : Option Addr} {n c : Nat} {w : World} (h : IRow B l (.slice a n c) w) : Has w a (iv l) := by
  obtain ⟨a', c', h1, h2⟩ := h
  injection h1 with e1 e2 e3
  subst e1
  exact has_of_owns h2
/-- Another kind's block stays apart. -/
theorem IRow.other {B : Nat} {l : List Int} {v : Value} {w w' : World} (h : IRow B l v w) (hb : Below B w w') (hk : ∀ g, v.ownBlock = some g → w'.heap[g]? = w.heap[g]?) : IRow B l v w' := by
  obtain ⟨a, c, rfl, h2⟩ := h
  refine ⟨a, c, rfl, h2.1, ?_⟩
  rcases h2.2 with g | ⟨g, cap, cur, hv, hg, hh, r⟩
  · exact .inl g
  · exact .inr ⟨g, cap, cur, hv, hg, (hk g (by rw [hv]; rfl)).trans hh, r⟩
theorem IRow.lit (w : World) (l : List Int) (B : Nat) (hB : B ≤ w.heap.size) (hl : l.length ≤ maxLen) (cs : Array Value) (hc : cs.toList = iv l) : IRow B l (.slice (some ⟨w.heap.size, 0, none⟩) l.length l.length) (w.alloc (.cells cs 3)) := by
  refine ⟨_, _, rfl, ?_⟩
  have := World.ownsRow_lit (e := 3) (size := 1) w cs l.length hB hl (by rw [← Array.length_toList, hc, iv_length, Nat.mul_one])
  rwa [hc] at this
/-- 'append' of some numbers. -/
theorem wpAppI {w : World} {ops : Array Oper} {rest : List Oper} {o : Oper} {a : Act} {Q : Exit → Act → World → Prop} (hgd : o.guard = none) (s x : Operand)
    (ho : o.op = .call { callee := .builtin .append, args := #[s, x], argTypes := #[27, 27] }) (B : Nat) (v : Value) (l m : List Int) (hs : a.eval s = v) (hown : IRow B l v w)
    (A : Option Addr) (k c : Nat) (hx : a.eval x = .slice A k c) (hk : m.length = k) (hh : Has w A (iv m)) (hA : A = none → c = 0) (hsz : l.length + k ≤ 1000000000) (hB : B ≤ w.heap.size)
    (h' : ∀ v' w', IRow B (l ++ m) v' w' → Below B w w' → w.grownBy w' v.ownBlock → wpList Tryd.prog ops Q rest (a.put o.dst v') w') : wpList Tryd.prog ops Q (o :: rest) a w := by
  obtain ⟨a0, c0, rfl, ho0⟩ := hown
  refine wpApp hgd s x 27 ho B 3 (.int .i64 0) 1 8 Tryd.underlying27 info_int rfl (by decide) _ l.length (iv l) hs ho0 A k c (iv m) hx (by rw [iv_length, hk, Nat.mul_one]) hh hA (iv_one m) (by unfold maxLen; omega) (by omega) hB ?_
  intro a1 c1 w1 hown k1 k2 k3 hb1 hg1
  refine h' _ w1 ⟨a1, c1, by rw [List.length_append, hk], ?_⟩ hb1 hg1
  rw [iv_append, List.length_append, hk]
  exact hown
/-- 'make' of room for so many numbers. -/
theorem wpMakeI {w : World} {ops : Array Oper} {rest : List Oper} {o : Oper} {a : Act} {Q : Exit → Act → World → Prop}
    (hg : o.guard = none) (l c : Operand) (hop : o.op = Op.makeSlice 27 l c) (n : Nat) (hl : a.eval l = .int .i64 0) (hc : a.eval c = .int .i64 (n : Int)) (hn : n ≤ 1000000000)
    (hK : ∀ v w', IRow w.heap.size [] v w' → Below w.heap.size w w' → wpList Tryd.prog ops Q rest (a.put o.dst v) w') : wpList Tryd.prog ops Q (o :: rest) a w := by
  obtain ⟨i, hi, hz, hz1, hz2⟩ := info_parts info_int
  refine wpList_make_own w hg l c 27 hop w.heap.size 3 i _ 1 Tryd.underlying27 hi hz hz1 .i64 .i64 _ n hl hc rfl (by rw [hz2]; omega) (by unfold maxLen; omega) (Nat.le_refl _) ?_
  intro w' h1 h2
  exact hK _ w' ⟨_, n, rfl, h1⟩ ((Below.refl _ w).grown h2 (Nat.le_refl _) (fun k hk => by cases hk))
end Go.Proofs.YtlhnfpkenlenjaaDoor
end
section

/- The table of verbs as it lies in memory, and the order that a verb gives. No condition. -/
namespace Go.Proofs.YtlhnfpkenlenjaaDoor
open Go.RowKit Go.Lib

def vPre : List (List UInt8) := [[], [65], [], [65], [65, 66], [65, 66], [], [], [65], [65], [65, 66], [65, 66], [65, 66], [65, 66], [65, 66], [65, 66]]
def vSuf : List (List UInt8) := [[], [], [68], [68], [], [], [67, 68], [67, 68], [67, 68], [67, 68], [68], [68], [67, 68], [67, 68], [67, 68], [67, 68]]
def vIs : List (List UInt8) := [[], [120, 65], [68, 120], [68, 120, 65], [120, 65, 66], [120, 66, 65], [67, 68, 120], [68, 67, 120], [67, 68, 120, 65], [68, 67, 120, 65], [68, 120, 65, 66], [68, 120, 66, 65], [67, 68, 120, 65, 66], [67, 68, 120, 66, 65], [68, 67, 120, 65, 66], [68, 67, 120, 66, 65]]
def preV (v : Nat) : List UInt8 := vPre.getD v []
def sufV (v : Nat) : List UInt8 := vSuf.getD v []
def isV (v : Nat) : List UInt8 := vIs.getD v []
def wasV (v : Nat) : List UInt8 := if v = 0 then [] else preV v ++ 120 :: sufV v
/-- The table of verbs lies in memory. -/
structure VerbsIn (w : World) : Prop where
  was : ∀ k, k < 16 → w.cell? ⟨0, k * 2, none⟩ = some (.string (str (wasV k)))
  is : ∀ k, k < 16 → w.cell? ⟨0, k * 2 + 1, none⟩ = some (.string (str (isV k)))
theorem VerbsIn.lt {w : World} (h : VerbsIn w) : 0 < w.heap.size := cell_lt (h.was 0 (by decide))
theorem VerbsIn.below {w w' : World} (h : VerbsIn w) (hb : Below w.heap.size w w') : VerbsIn w' :=
  ⟨fun k hk => (hb.cell (p := ⟨0, k * 2, none⟩) h.lt).trans (h.was k hk), fun k hk => (hb.cell (p := ⟨0, k * 2 + 1, none⟩) h.lt).trans (h.is k hk)⟩

def lettersAll : List UInt8 := [65, 66, 67, 68, 120]
theorem isV_letters : ∀ v, v < 16 → ∀ c ∈ isV v, c ∈ lettersAll := by decide
theorem isV_len : ∀ v, v < 16 → (isV v).length ≤ 5 := by decide
theorem preV_x : ∀ v, v < 16 → ∀ b ∈ preV v, b ≠ 120 := by decide
theorem ends_len : ∀ v, v < 16 → (preV v).length + (sufV v).length ≤ 4 := by decide
/-- What a letter stands for. -/
def letV (a b n : Nat) (c : UInt8) : List Int :=
  if c = 65 then [0] else if c = 66 then [1] else if c = 67 then [(n : Int) - 2] else if c = 68 then [(n : Int) - 1] else (List.range (n - b - a)).map fun i => ((a + i : Nat) : Int)
theorem letV_len (a b n : Nat) (c : UInt8) : (letV a b n c).length ≤ n + 1 := by
  unfold letV
  split
  · simp
  split
  · simp
  split
  · simp
  split
  · simp
  simp
  omega
/-- The order that a verb gives. -/
def ordV (v n : Nat) : List Int := (isV v).flatMap (letV (preV v).length (sufV v).length n)
/-- The letters up to the j-th. -/
def ordP (v n j : Nat) : List Int := ((isV v).take j).flatMap (letV (preV v).length (sufV v).length n)
theorem ordP_zero (v n : Nat) : ordP v n 0 = [] := rfl
theorem ordP_succ (v n j : Nat) (c : UInt8) (h : (isV v)[j]? = some c) : ordP v n (j + 1) = ordP v n j ++ letV (preV v).length (sufV v).length n c := by
  unfold ordP
  rw [List.take_add_one, h, List.flatMap_append]
  simp
theorem ordP_all (v n j : Nat) (h : (isV v).length ≤ j) : ordP v n j = ordV v n := by unfold ordP ordV; rw [List.take_of_length_le h]
theorem ordP_len (v n : Nat) : ∀ j, (ordP v n j).length ≤ j * (n + 1)
  | 0 => by simp [ordP_zero]
  | j + 1 => by
    have ih := ordP_len v n j
    rw [Nat.succ_mul]
    cases h : (isV v)[j]? with
    | none => rw [show ordP v n (j + 1) = ordP v n j by unfold ordP; rw [List.take_add_one, h]; simp]; omega
    | some c =>
      rw [ordP_succ v n j c h, List.length_append]
      have := letV_len (preV v).length (sufV v).length n c
      omega
/-- Is there an order? -/
def okV (z zn : Int) : Prop := 1 ≤ z ∧ z < 16 ∧ ((preV z.toNat).length : Int) + ((sufV z.toNat).length : Int) ≤ zn
instance (z zn : Int) : Decidable (okV z zn) := inferInstanceAs (Decidable (_ ∧ _ ∧ _))
def VOrdIs (B : Nat) (z zn : Int) (w : World) (e : Ending) (w' : World) : Prop :=
  (okV z zn ∧ ∃ v, e = .returned (.tuple #[v, .bool true]) ∧ IRow B (ordV z.toNat zn.toNat) v w' ∧ Below w.heap.size w w') ∨ (¬ okV z zn ∧ e = .returned (.tuple #[.slice none 0 0, .bool false]) ∧ Below w.heap.size w w')
end Go.Proofs.YtlhnfpkenlenjaaDoor
end
section

/- Which order a verb gives: verb.Order. Conditions: the table of verbs lies in memory; sizes. -/
namespace Go.Proofs.YtlhnfpkenlenjaaDoor
open Go.RowKit Go.Lib

theorem next_letter (w : World) (it : Nat) (o : ByteArray) (l : List UInt8) (j : Nat) (c : UInt8) (z : Int) (hit : w.heap[it]? = some (.stringIter o j)) (ho : o = str l) (hj : l[j]? = some c) (hc : c.toNat < 128) (hz : z = (c.toNat : Nat)) (ty : TypeId) :
    (Instr.next (.pointer (some ⟨it, 0, none⟩)) true ty).run Tryd.prog w = .ok (.tuple #[.bool true, .int .i64 (j : Nat), .int .i32 z]) (w.iterAt it o (j + 1)) := by
  subst ho hz
  obtain ⟨hlt, hg⟩ := List.getElem?_eq_some_iff.1 hj
  have hs : j < (str l).size := by rw [str_size]; exact hlt
  have e : (str l)[j]'hs = c := hg
  have := Lib.run_next_ascii_at (P := Tryd.prog) w it (str l) j ty hit hs (by rw [e]; exact hc)
  rw [e] at this
  exact this
theorem next_over (w : World) (it : Nat) (o : ByteArray) (l : List UInt8) (j : Nat) (hit : w.heap[it]? = some (.stringIter o j)) (ho : o = str l) (hj : l.length ≤ j) (ty : TypeId) :
    (Instr.next (.pointer (some ⟨it, 0, none⟩)) true ty).run Tryd.prog w = .ok (.tuple #[.bool false]) w :=
  Lib.run_next_end_at (P := Tryd.prog) w it o j ty hit (by subst ho; rw [str_size]; omega)
theorem IRow.apart {B : Nat} {l : List Int} {v : Value} {w : World} (h : IRow B l v w) {it : Nat} {o : ByteArray} {j : Nat} (hit : w.heap[it]? = some (.stringIter o j)) : some it ≠ v.ownBlock := by
  obtain ⟨a, c, rfl, h2⟩ := h
  rcases h2.2 with ⟨hv, _⟩ | ⟨g, cap, cur, hv, _, hh, _⟩
  · rw [hv]; simp [Value.ownBlock]
  · rw [hv]
    simp only [Value.ownBlock, ne_eq, Option.some.injEq]
    rintro rfl
    rw [hit] at hh
    cases hh
theorem IRow.iterAt {B : Nat} {l : List Int} {v : Value} {w : World} (h : IRow B l v w) {it : Nat} {o : ByteArray} {j : Nat} (hit : w.heap[it]? = some (.stringIter o j)) (hB : B ≤ it) (j' : Nat) : IRow B l v (w.iterAt it o j') :=
  h.other (Lib.below_iterAt (Below.refl _ _) hB o j') fun g hg => Lib.iterAt_other w it g o j' (by rintro rfl; exact h.apart hit hg.symm)
theorem iter_alloc {w : World} {it : Nat} {o : ByteArray} {j : Nat} (hit : w.heap[it]? = some (.stringIter o j)) (x : Obj) : (w.alloc x).heap[it]? = some (.stringIter o j) := by
  rw [heap_push, if_neg (by have := (Array.getElem?_eq_some_iff.1 hit).1; omega)]
  exact hit
theorem wpAppIt {w : World} {ops : Array Oper} {rest : List Oper} {o : Oper} {a : Act} {Q : Exit → Act → World → Prop} (hgd : o.guard = none) (s x : Operand)
    (ho : o.op = .call { callee := .builtin .append, args := #[s, x], argTypes := #[27, 27] }) (B : Nat) (v : Value) (l m : List Int) (hs : a.eval s = v) (hown : IRow B l v w)
    (A : Option Addr) (k c : Nat) (hx : a.eval x = .slice A k c) (hk : m.length = k) (hh : Has w A (iv m)) (hA : A = none → c = 0) (hsz : l.length + k ≤ 1000000000) (hB : B ≤ w.heap.size) (it : Nat) (so : ByteArray) (j : Nat) (hit : w.heap[it]? = some (.stringIter so j))
    (h' : ∀ v' w', IRow B (l ++ m) v' w' → Below B w w' → w'.heap[it]? = some (.stringIter so j) → wpList Tryd.prog ops Q rest (a.put o.dst v') w') : wpList Tryd.prog ops Q (o :: rest) a w :=
  wpAppI hgd s x ho B v l m hs hown A k c hx hk hh hA hsz hB fun v' w' h1 h2 h3 => h' v' w' h1 h2 ((h3.block it (Array.getElem?_eq_some_iff.1 hit).1 (hown.apart hit)).trans hit)
set_option maxRecDepth 100000 in
set_option maxHeartbeats 3200000 in
theorem vorder_any (z zn : Int) (w : World) (hV : VerbsIn w) (hn : zn ≤ 1000000) (hz0 : -9223372036854775808 ≤ zn) :
    Calls Tryd.prog 23 #[.int .i64 z, .int .i64 zn] w (VOrdIs w.heap.size z zn w) := by
  have hAC := allocC
  have hAF := allocF
  have d268 : decide ((268435455 : Int) < zn) = false := by simp; omega
  by_cases h1 : z < 1
  · have d1 : decide (z < 1) = true := by simpa using h1
    have hno : ¬ okV z zn := fun h => by have := h.1; omega
    clear hV h1 d268
    go_enter Tryd.func23, Tryd.ntmps23
    go_wp2_with fail
    go_ret2
    exact .inr ⟨hno, rfl, blw⟩
  have d1 : decide (z < 1) = false := by simp; omega
  by_cases h2 : 16 ≤ z
  · have d2 : decide (16 ≤ z) = true := by simpa using h2
    have hno : ¬ okV z zn := fun h => by have := h.2.1; omega
    clear hV h1 h2 d268
    go_enter Tryd.func23, Tryd.ntmps23
    go_wp2_with fail
    go_ret2
    exact .inr ⟨hno, rfl, blw⟩
  have d2 : decide (16 ≤ z) = false := by simp; omega
  obtain ⟨k, rfl⟩ : ∃ k : Nat, z = k := ⟨z.toNat, by omega⟩
  have hk : k < 16 := by omega
  have hk1 : 1 ≤ k := by omega
  have c0 := hV.was k hk
  have c1 := hV.is k hk
  rw [show wasV k = preV k ++ 120 :: sufV k by unfold wasV; rw [if_neg (by omega)]] at c0
  have HV := Lib.hid hV
  have HCUT := Lib.hid (fun w => cut_any (preV k) (sufV k) (preV_x k hk) (by have := ends_len k hk; omega) w)
  have s1 := str_size (preV k)
  have s2 := str_size (sufV k)
  have hab := ends_len k hk
  obtain ⟨o1, ho1⟩ : ∃ o, o = str (preV k ++ 120 :: sufV k) := ⟨_, rfl⟩
  obtain ⟨o2, ho2⟩ : ∃ o, o = str (isV k) := ⟨_, rfl⟩
  obtain ⟨S1, hS1⟩ : ∃ o, o = str (preV k) := ⟨_, rfl⟩
  obtain ⟨S2, hS2⟩ : ∃ o, o = str (sufV k) := ⟨_, rfl⟩
  rw [← ho1] at c0 HCUT
  rw [← ho2] at c1
  rw [← hS1] at s1 HCUT
  rw [← hS2] at s2 HCUT
  obtain ⟨a, ha⟩ : ∃ a, a = (preV k).length := ⟨_, rfl⟩
  obtain ⟨b, hb⟩ : ∃ b, b = (sufV k).length := ⟨_, rfl⟩
  rw [← ha] at s1 hab
  rw [← hb] at s2 hab
  have hg := HV.out.lt
  have hK16 : decide (k < 16) = true := by simp; omega
  have hK16i : decide ((k : Int) < 16) = true := by simp; omega
  have hK0i : decide ((0 : Int) ≤ (k : Int)) = true := by simp
  have HO2 := Lib.hid ho2
  have HA := Lib.hid ha
  have HB := Lib.hid hb
  clear hV h1 h2 ho1 ho2 hS1 hS2 ha hb
  by_cases h3 : zn < (a : Int) + (b : Int)
  · have d3 : decide (zn < (a : Int) + (b : Int)) = true := by simpa using h3
    have hno : ¬ okV k zn := fun h => by
      have := h.2.2
      rw [Int.toNat_natCast, ← HA.out, ← HB.out] at this
      omega
    have HNO := Lib.hid hno
    clear h3 hno d268
    go_enter Tryd.func23, Tryd.ntmps23
    go_wp2_with (go_at_call 43; (with_reducible refine (HCUT.out _).mono ?_); rintro e w1 ⟨rfl, hb1⟩; have h1c := bc hb1; have h1f := bf hb1; have h1z := hb1.size)
    go_ret2
    exact .inr ⟨HNO.out, rfl, hb1⟩
  have d3 : decide (zn < (a : Int) + (b : Int)) = false := by simp; omega
  obtain ⟨n, rfl⟩ : ∃ n : Nat, zn = n := ⟨zn.toNat, by omega⟩
  have hn2 : n ≤ 1000000 := by omega
  have hok : okV k n := ⟨by omega, by omega, by rw [Int.toNat_natCast, ← HA.out, ← HB.out]; omega⟩
  have HOK := Lib.hid hok
  have habn : a + b ≤ n := by omega
  clear h3 hok hn hz0
  go_enter Tryd.func23, Tryd.ntmps23
  go_wp2_with (first
    | (go_at_call 43; (with_reducible refine (HCUT.out _).mono ?_); rintro e w1 ⟨rfl, hb1⟩; have h1c := bc hb1; have h1f := bf hb1; have h1z := hb1.size)
    | (refine wpMakeI rfl _ _ rfl n rfl rfl (by omega) ?_; intro v2 w2 hI2 hb2; have HI2 := Lib.hid hI2; have h2c := bc hb2; have h2f := bf hb2; have h2z := hb2.size; clear hI2))
  obtain ⟨wi, hwi⟩ : ∃ wi, wi = w2.iter o2 0 := ⟨_, rfl⟩
  have hit := World.iter_heap w2 o2 0
  have hbi : Below w.heap.size w wi := by rw [hwi]; exact bthen (bthen (brefl _) hb1) hb2 |>.alloc (by omega) _
  have hIi : IRow w.heap.size [] v2 wi := by rw [hwi]; exact (HI2.out.below (balloc (brefl _) _)).mono hb1.size
  rw [← hwi] at hit ⊢
  have hwit : w.heap.size ≤ w2.heap.size := by omega
  obtain ⟨it, hii⟩ : ∃ it, it = w2.heap.size := ⟨_, rfl⟩
  rw [← hii] at hit hwit ⊢
  have HIT := Lib.hid hit
  have HBI := Lib.hid hbi
  have HII := Lib.hid hIi
  clear hwi hit hbi hIi hii h1c h1f h1z h2c h2f h2z hb1 hb2 HI2 c0 c1 HV HCUT
  go_loopw [9] (fun v wr => ∃ j : Nat, j ≤ (isV k).length ∧ IRow w.heap.size (ordP k n j) v wr ∧ wr.heap[it]? = some (.stringIter o2 j) ∧ Below w.heap.size w wr) (fun _ wr => (isV k).length - wr.iterPos it)
  case atStart => exact ⟨0, Nat.zero_le _, by rw [ordP_zero]; exact HII.out, HIT.out, HBI.out⟩
  case round =>
    obtain ⟨j, hj, hI, hit, hb⟩ := hrel
    have HI := Lib.hid hI
    have HIT2 := Lib.hid hit
    have HBR := Lib.hid hb
    have hzr := hb.size
    clear hI hb
    by_cases hlt : j < (isV k).length
    · have hcm := isV_letters k hk _ (List.getElem_mem hlt)
      have hcj := List.getElem?_eq_getElem hlt
      generalize (isV k)[j] = c at hcm hcj
      have HS := Lib.hid (ordP_succ k n j c hcj)
      simp only [lettersAll, List.mem_cons, List.not_mem_nil, or_false] at hcm
      have hbr1 := Lib.below_iterAt HBR.out hwit o2 (j + 1)
      have HI1 := Lib.hid (HI.out.iterAt hit hwit (j + 1))
      have HIT3 := Lib.hid (Lib.iterAt_heap wr it o2 j (j + 1) hit)
      have HBR1 := Lib.hid hbr1
      have hlen : (ordP k n j).length ≤ 10000000 := by
        have h1 := ordP_len k n j
        have h2 := isV_len k hk
        have h3 : j * (n + 1) ≤ 5 * (n + 1) := Nat.mul_le_mul_right _ (by omega)
        omega
      have HNX := Lib.hid (fun z hz ty => next_letter wr it o2 (isV k) j c z hit HO2.out hcj (by rcases hcm with rfl | rfl | rfl | rfl | rfl <;> decide) hz ty)
      clear hbr1 hit
      rcases hcm with rfl | rfl | rfl | rfl | rfl
      · have hnx := HNX.out 65 rfl
        obtain ⟨wx, hwx⟩ : ∃ wx, wx = wr.iterAt it o2 (j + 1) := ⟨_, rfl⟩
        rw [← hwx] at hnx HI1 HIT3 HBR1
        clear hwx HNX
        go_wp2_with (at_builtin; refine wpAppIt rfl _ _ rfl w.heap.size _ (ordP k n j) [0] rfl (HI1.out.below (balloc (brefl _) _)) (some ⟨wx.heap.size, 0, none⟩) 1 1 rfl rfl (has_alloc wx _ _) (fun h => by cases h) (by omega) (by have := HBR1.out.size; simp; omega) it o2 (j + 1) (iter_alloc HIT3.out _) ?_; intro v3 w3 hI3 hb3 hit3; have HI3 := Lib.hid hI3; have HIT4 := Lib.hid hit3; have HB3 := Lib.hid ((HBR1.out.alloc HBR1.out.size _).trans hb3); clear hI3 hit3 hb3)
        go_roundw
        case rel => exact ⟨j + 1, hlt, by rw [HS.out]; exact (show letV (preV k).length (sufV k).length n 65 = [0] by rfl) ▸ HI3.out, HIT4.out, HB3.out⟩
        case measure => simp only [World.iterPos, HIT4.out, HIT2.out]; omega
      · have hnx := HNX.out 66 rfl
        obtain ⟨wx, hwx⟩ : ∃ wx, wx = wr.iterAt it o2 (j + 1) := ⟨_, rfl⟩
        rw [← hwx] at hnx HI1 HIT3 HBR1
        clear hwx HNX
        go_wp2_with (at_builtin; refine wpAppIt rfl _ _ rfl w.heap.size _ (ordP k n j) [1] rfl (HI1.out.below (balloc (brefl _) _)) (some ⟨wx.heap.size, 0, none⟩) 1 1 rfl rfl (has_alloc wx _ _) (fun h => by cases h) (by omega) (by have := HBR1.out.size; simp; omega) it o2 (j + 1) (iter_alloc HIT3.out _) ?_; intro v3 w3 hI3 hb3 hit3; have HI3 := Lib.hid hI3; have HIT4 := Lib.hid hit3; have HB3 := Lib.hid ((HBR1.out.alloc HBR1.out.size _).trans hb3); clear hI3 hit3 hb3)
        go_roundw
        case rel => exact ⟨j + 1, hlt, by rw [HS.out]; exact (show letV (preV k).length (sufV k).length n 66 = [1] by rfl) ▸ HI3.out, HIT4.out, HB3.out⟩
        case measure => simp only [World.iterPos, HIT4.out, HIT2.out]; omega
      · have hnx := HNX.out 67 rfl
        obtain ⟨wx, hwx⟩ : ∃ wx, wx = wr.iterAt it o2 (j + 1) := ⟨_, rfl⟩
        rw [← hwx] at hnx HI1 HIT3 HBR1
        clear hwx HNX
        go_wp2_with (at_builtin; refine wpAppIt rfl _ _ rfl w.heap.size _ (ordP k n j) [(n : Int) - 1 - 1] rfl (HI1.out.below (balloc (brefl _) _)) (some ⟨wx.heap.size, 0, none⟩) 1 1 rfl rfl (has_alloc wx _ _) (fun h => by cases h) (by omega) (by have := HBR1.out.size; simp; omega) it o2 (j + 1) (iter_alloc HIT3.out _) ?_; intro v3 w3 hI3 hb3 hit3; have HI3 := Lib.hid hI3; have HIT4 := Lib.hid hit3; have HB3 := Lib.hid ((HBR1.out.alloc HBR1.out.size _).trans hb3); clear hI3 hit3 hb3)
        go_roundw
        case rel => exact ⟨j + 1, hlt, by rw [HS.out]; exact (show letV (preV k).length (sufV k).length n 67 = [(n : Int) - 1 - 1] by show [(n : Int) - 2] = _; congr 1; omega) ▸ HI3.out, HIT4.out, HB3.out⟩
        case measure => simp only [World.iterPos, HIT4.out, HIT2.out]; omega
      · have hnx := HNX.out 68 rfl
        obtain ⟨wx, hwx⟩ : ∃ wx, wx = wr.iterAt it o2 (j + 1) := ⟨_, rfl⟩
        rw [← hwx] at hnx HI1 HIT3 HBR1
        clear hwx HNX
        go_wp2_with (at_builtin; refine wpAppIt rfl _ _ rfl w.heap.size _ (ordP k n j) [(n : Int) - 1] rfl (HI1.out.below (balloc (brefl _) _)) (some ⟨wx.heap.size, 0, none⟩) 1 1 rfl rfl (has_alloc wx _ _) (fun h => by cases h) (by omega) (by have := HBR1.out.size; simp; omega) it o2 (j + 1) (iter_alloc HIT3.out _) ?_; intro v3 w3 hI3 hb3 hit3; have HI3 := Lib.hid hI3; have HIT4 := Lib.hid hit3; have HB3 := Lib.hid ((HBR1.out.alloc HBR1.out.size _).trans hb3); clear hI3 hit3 hb3)
        go_roundw
        case rel => exact ⟨j + 1, hlt, by rw [HS.out]; exact (show letV (preV k).length (sufV k).length n 68 = [(n : Int) - 1] by rfl) ▸ HI3.out, HIT4.out, HB3.out⟩
        case measure => simp only [World.iterPos, HIT4.out, HIT2.out]; omega
      · have hnx := HNX.out 120 rfl
        obtain ⟨wx, hwx⟩ : ∃ wx, wx = wr.iterAt it o2 (j + 1) := ⟨_, rfl⟩
        rw [← hwx] at hnx HI1 HIT3 HBR1
        clear hwx HNX
        go_wp2_with fail
        go_loopw [9, 12] (fun v i wq => ∃ q : Nat, q ≤ n - b - a ∧ i = .int .i64 ((a : Int) + (q : Int)) ∧ IRow w.heap.size (ordP k n j ++ (List.range q).map fun i => ((a + i : Nat) : Int)) v wq ∧ wq.heap[it]? = some (.stringIter o2 (j + 1)) ∧ Below w.heap.size w wq) (fun _ i _ => n - (RowKit.intOf i).toNat)
        case atStart => exact ⟨0, Nat.zero_le _, by simp, by simpa using HI1.out, HIT3.out, HBR1.out⟩
        case round =>
          obtain ⟨q, hq, rfl, hI, hit, hb⟩ := hrel
          have HIQ := Lib.hid hI
          have HITQ := Lib.hid hit
          have HBQ := Lib.hid hb
          have hzq := hb.size
          clear hI hit hb
          by_cases hlq : q < n - b - a
          · have d5 : decide ((a : Int) + (q : Int) < (n : Int) - (b : Int)) = true := by simp; omega
            rename World => wq
            go_wp2_with (at_builtin; refine wpAppIt rfl _ _ rfl w.heap.size _ (ordP k n j ++ (List.range q).map fun i => ((a + i : Nat) : Int)) [(a : Int) + (q : Int)] rfl (HIQ.out.below (balloc (brefl _) _)) (some ⟨wq.heap.size, 0, none⟩) 1 1 rfl rfl (has_alloc wq _ _) (fun h => by cases h) (by simp; omega) (by simp; omega) it o2 (j + 1) (iter_alloc HITQ.out _) ?_; intro v3 w3 hI3 hb3 hit3; have HI3 := Lib.hid hI3; have HIT4 := Lib.hid hit3; have HB3 := Lib.hid ((HBQ.out.alloc HBQ.out.size _).trans hb3); clear hI3 hit3 hb3)
            go_roundw
            case rel => exact ⟨q + 1, by omega, by go_num, by rw [List.range_succ, List.map_append, ← List.append_assoc]; exact HI3.out, HIT4.out, HB3.out⟩
            case measure => simp only [RowKit.intOf]; omega
          · obtain rfl : q = n - b - a := by omega
            have d5 : decide ((a : Int) + ((n - b - a : Nat) : Int) < (n : Int) - (b : Int)) = false := by simp; omega
            go_wp2_with fail
            go_roundw
            case rel => exact ⟨j + 1, hlt, by rw [HS.out, ← HA.out, ← HB.out]; exact HIQ.out, HITQ.out, HBQ.out⟩
            case measure => simp only [World.iterPos, HITQ.out, HIT2.out]; omega
    · have hnx := fun ty => next_over wr it o2 (isV k) j hit HO2.out (by omega) ty
      have HE := Lib.hid (ordP_all k n j (by omega))
      clear hit
      go_wp2_with fail
      go_ret2
      exact .inl ⟨HOK.out, _, rfl, by rw [Int.toNat_natCast, Int.toNat_natCast, ← HE.out]; exact HI.out, HBR.out⟩
end Go.Proofs.YtlhnfpkenlenjaaDoor
end
section

/- What the order that a verb gives is, place by place. No walk. Condition: as many glyphs as the verb has letters. -/
namespace Go.Proofs.YtlhnfpkenlenjaaDoor
open Go.RowKit Go.Lib

def preC : Nat → List Nat
  | 2 | 3 | 10 | 11 => [3]
  | 6 | 8 | 12 | 13 => [2, 3]
  | 7 | 9 | 14 | 15 => [3, 2]
  | _ => []
def sufC : Nat → List Nat
  | 1 | 3 | 8 | 9 => [0]
  | 4 | 10 | 12 | 14 => [0, 1]
  | 5 | 11 | 13 | 15 => [1, 0]
  | _ => []
def codeL (c : Nat) : UInt8 := UInt8.ofNat (65 + c)
/-- What stands for a letter: the first two, and the last two, of a row. -/
def eC (n c : Nat) : Int := if c < 2 then (c : Int) else (n : Int) - 4 + c
theorem isV_split : ∀ v, v < 16 → 1 ≤ v → isV v = (preC v).map codeL ++ 120 :: (sufC v).map codeL := by decide
theorem codes_lt : ∀ v, v < 16 → (∀ c ∈ preC v, c < 4) ∧ (∀ c ∈ sufC v, c < 4) := by decide
theorem letV_code (a b n c : Nat) (h : c < 4) : letV a b n (codeL c) = [eC n c] := by
  match c, h with
  | 0, _ => rfl
  | 1, _ => rfl
  | 2, _ => show [(n : Int) - 2] = [(n : Int) - 4 + 2]; congr 1; omega
  | 3, _ => show [(n : Int) - 1] = [(n : Int) - 4 + 3]; congr 1; omega
theorem flat_code (a b n : Nat) : ∀ l : List Nat, (∀ c ∈ l, c < 4) → (l.map codeL).flatMap (letV a b n) = l.map (eC n)
  | [], _ => rfl
  | c :: l, h => by
    rw [List.map_cons, List.flatMap_cons, letV_code a b n c (h c (by simp)), flat_code a b n l (fun c hc => h c (by simp [hc]))]
    rfl
theorem ordV_is (v n : Nat) (hv : v < 16) (h1 : 1 ≤ v) : ordV v n = (preC v).map (eC n) ++ ((List.range (n - (sufV v).length - (preV v).length)).map (fun i => (((preV v).length + i : Nat) : Int)) ++ (sufC v).map (eC n)) := by
  obtain ⟨c1, c2⟩ := codes_lt v hv
  unfold ordV
  rw [isV_split v hv h1, List.flatMap_append, List.flatMap_cons, flat_code _ _ _ _ c1, flat_code _ _ _ _ c2]
  rfl
/-- Its i-th number. -/
def eV (v n i : Nat) : Int :=
  if i < (preC v).length then eC n ((preC v).getD i 0)
  else if i < (preC v).length + (n - (sufV v).length - (preV v).length) then (((preV v).length + (i - (preC v).length) : Nat) : Int)
  else eC n ((sufC v).getD (i - (preC v).length - (n - (sufV v).length - (preV v).length)) 0)
theorem ends_same : ∀ v, v < 16 → (preC v).length + (sufC v).length = (preV v).length + (sufV v).length := by decide
theorem ordV_length (v n : Nat) (hv : v < 16) (h1 : 1 ≤ v) (h : (preV v).length + (sufV v).length ≤ n) : (ordV v n).length = n := by
  have := ends_same v hv
  rw [ordV_is v n hv h1]
  simp only [List.length_append, List.length_map, List.length_range]
  omega
theorem ordV_get (v n i : Nat) (hv : v < 16) (h1 : 1 ≤ v) (h : (preV v).length + (sufV v).length ≤ n) (hi : i < n) : (ordV v n)[i]? = some (eV v n i) := by
  have he := ends_same v hv
  rw [ordV_is v n hv h1, List.getElem?_append, List.length_map]
  unfold eV
  by_cases g1 : i < (preC v).length
  · rw [if_pos g1, if_pos g1, List.getElem?_map, List.getElem?_eq_getElem g1, List.getD_eq_getElem?_getD, List.getElem?_eq_getElem g1]
    rfl
  rw [if_neg g1, if_neg g1, List.getElem?_append, List.length_map, List.length_range]
  by_cases g2 : i < (preC v).length + (n - (sufV v).length - (preV v).length)
  · rw [if_pos (by omega), if_pos g2, List.getElem?_map, List.getElem?_range (by omega)]
    rfl
  · rw [if_neg (by omega), if_neg g2]
    have g3 : i - (preC v).length - (n - (sufV v).length - (preV v).length) < (sufC v).length := by omega
    rw [List.getElem?_map, List.getElem?_eq_getElem g3, List.getD_eq_getElem?_getD, List.getElem?_eq_getElem g3]
    rfl
/-- What its numbers are like: below n, from 0 on; each once; those between one behind the other. -/
theorem getD1 (a j : Nat) : [a].getD j 0 = if j = 0 then a else 0 := by
  match j with
  | 0 => rfl
  | j + 1 => simp
theorem getD2 (a b j : Nat) : [a, b].getD j 0 = if j = 0 then a else if j = 1 then b else 0 := by
  match j with
  | 0 => rfl
  | 1 => rfl
  | j + 2 => simp
/-- All fifteen, one by one. -/
theorem verbs15 {P : Nat → Prop} (h1 : P 1) (h2 : P 2) (h3 : P 3) (h4 : P 4) (h5 : P 5) (h6 : P 6) (h7 : P 7) (h8 : P 8) (h9 : P 9) (h10 : P 10) (h11 : P 11) (h12 : P 12) (h13 : P 13) (h14 : P 14) (h15 : P 15) : ∀ v, 1 ≤ v → v < 16 → P v
  | 1, _, _ => h1 | 2, _, _ => h2 | 3, _, _ => h3 | 4, _, _ => h4 | 5, _, _ => h5 | 6, _, _ => h6 | 7, _, _ => h7 | 8, _, _ => h8 | 9, _, _ => h9 | 10, _, _ => h10 | 11, _, _ => h11 | 12, _, _ => h12 | 13, _, _ => h13 | 14, _, _ => h14 | 15, _, _ => h15
  | v + 16, _, h => absurd h (by omega)
theorem eV_in (v : Nat) (h1 : 1 ≤ v) (hv : v < 16) : ∀ n i, (preV v).length + (sufV v).length ≤ n → i < n → 0 ≤ eV v n i ∧ eV v n i < (n : Int) := by
  revert v
  apply verbs15 <;>
  · intro n i
    simp only [eV, preC, sufC, preV, sufV, vPre, vSuf, List.getD_cons_succ, List.getD_cons_zero, List.length_cons, List.length_nil, eC, getD1, getD2]
    intro h hi
    refine ⟨?_, ?_⟩
    · repeat' split
      all_goals omega
    · repeat' split
      all_goals omega
theorem eC_end (n c : Nat) (h : c < 4) : eC n c ≤ 1 ∨ (n : Int) - 2 ≤ eC n c := by
  unfold eC
  split <;> omega
theorem getD_lt {l : List Nat} (h : ∀ c ∈ l, c < 4) (j : Nat) : l.getD j 0 < 4 := by
  rw [List.getD_eq_getElem?_getD]
  cases hj : l[j]? with
  | none => decide
  | some c => exact h c (List.mem_of_getElem? hj)
theorem suf_two : ∀ v, v < 16 → (sufV v).length ≤ 2 := by decide
theorem eV_next (v : Nat) (h1 : 1 ≤ v) (hv : v < 16) (n i : Nat) (h : (preV v).length + (sufV v).length ≤ n) (g1 : 2 ≤ eV v n i) (g2 : eV v n i < (n : Int) - 3) : i + 1 < n ∧ eV v n (i + 1) = eV v n i + 1 := by
  obtain ⟨c1, c2⟩ := codes_lt v hv
  have he := ends_same v hv
  have hb := suf_two v hv
  by_cases k1 : i < (preC v).length
  · have : eV v n i = eC n ((preC v).getD i 0) := by unfold eV; rw [if_pos k1]
    have := eC_end n _ (getD_lt c1 i)
    omega
  by_cases k2 : i < (preC v).length + (n - (sufV v).length - (preV v).length)
  · have e1 : eV v n i = (((preV v).length + (i - (preC v).length) : Nat) : Int) := by unfold eV; rw [if_neg k1, if_pos k2]
    have k3 : i + 1 < (preC v).length + (n - (sufV v).length - (preV v).length) := by omega
    have e2 : eV v n (i + 1) = (((preV v).length + (i + 1 - (preC v).length) : Nat) : Int) := by unfold eV; rw [if_neg (by omega), if_pos k3]
    exact ⟨by omega, by omega⟩
  · have : eV v n i = eC n ((sufC v).getD (i - (preC v).length - (n - (sufV v).length - (preV v).length)) 0) := by unfold eV; rw [if_neg k1, if_neg k2]
    have := eC_end n _ (getD_lt c2 (i - (preC v).length - (n - (sufV v).length - (preV v).length)))
    omega
end Go.Proofs.YtlhnfpkenlenjaaDoor
end
section

/- What law 13 asks of a verb first; orders as slices. Condition: the table of verbs lies in memory. -/
namespace Go.Proofs.YtlhnfpkenlenjaaDoor
open Go.RowKit Go.Lib

theorem okV_pre {z zn : Int} (h : okV z zn) : ∃ v n : Nat, z = v ∧ zn = n ∧ 1 ≤ v ∧ v < 16 ∧ (preV v).length + (sufV v).length ≤ n := by
  obtain ⟨h1, h2, h3⟩ := h
  refine ⟨z.toNat, zn.toNat, by omega, by omega, by omega, by omega, by omega⟩
theorem IRow.slice {B : Nat} {l : List Int} {v : Value} {w : World} (h : IRow B l v w) : ∃ a c, v = .slice a l.length c ∧ Has w a (iv l) ∧ l.length ≤ c ∧ c ≤ maxLen ∧ (a = none → c = 0) := by
  obtain ⟨a, c, rfl, h2⟩ := h
  obtain ⟨a', c', e, k1, k2, k3⟩ := owns_slice h2
  injection e with e1 e2 e3
  subst e1 e3
  exact ⟨a, c, rfl, has_of_owns h2, k1, k2, k3⟩
theorem vorder_yes (v n : Nat) (w : World) (hV : VerbsIn w) (hn : n ≤ 1000000) (h1 : 1 ≤ v) (hv : v < 16) (h : (preV v).length + (sufV v).length ≤ n) (z zn : Int) (hz : z = v) (hzn : zn = n) :
    Calls Tryd.prog 23 #[.int .i64 z, .int .i64 zn] w fun e w' => ∃ a c, e = .returned (.tuple #[.slice a n c, .bool true]) ∧ Has w' a (iv (ordV v n)) ∧ n ≤ c ∧ c ≤ maxLen ∧ (a = none → c = 0) ∧ Below w.heap.size w w' := by
  subst hz hzn
  refine (vorder_any v n w hV (by omega) (by omega)).mono ?_
  rintro e w' (⟨_, x, rfl, hI, hb⟩ | ⟨hno, _⟩)
  · obtain ⟨a, c, rfl, k1, k2, k3, k4⟩ := hI.slice
    rw [Int.toNat_natCast, Int.toNat_natCast] at k1 k2 ⊢
    rw [ordV_length v n hv h1 h] at k2 ⊢
    exact ⟨a, c, rfl, k1, k2, k3, k4, hb⟩
  · exact absurd ⟨by omega, by omega, by rw [Int.toNat_natCast]; omega⟩ hno
theorem refvorder_yes (v n : Nat) (w : World) (hn : n ≤ 1000000) (h1 : 1 ≤ v) (hv : v < 16) (h : (preV v).length + (sufV v).length ≤ n) (z zn : Int) (hz : z = v) (hzn : zn = n)
    (href : Calls Tryd.prog 37 #[.int .i64 z, .int .i64 zn] w (VOrdIs w.heap.size z zn w)) :
    Calls Tryd.prog 37 #[.int .i64 z, .int .i64 zn] w fun e w' => ∃ a c, e = .returned (.tuple #[.slice a n c, .bool true]) ∧ Has w' a (iv (ordV v n)) ∧ n ≤ c ∧ c ≤ maxLen ∧ (a = none → c = 0) ∧ Below w.heap.size w w' := by
  subst hz hzn
  refine href.mono ?_
  rintro e w' (⟨_, x, rfl, hI, hb⟩ | ⟨hno, _⟩)
  · obtain ⟨a, c, rfl, k1, k2, k3, k4⟩ := hI.slice
    rw [Int.toNat_natCast, Int.toNat_natCast] at k1 k2 ⊢
    rw [ordV_length v n hv h1 h] at k2 ⊢
    exact ⟨a, c, rfl, k1, k2, k3, k4, hb⟩
  · exact absurd ⟨by omega, by omega, by rw [Int.toNat_natCast]; omega⟩ hno
theorem vorder_no (z zn : Int) (w : World) (hV : VerbsIn w) (hn : zn ≤ 1000000) (hz : -9223372036854775808 ≤ zn) (hno : ¬ okV z zn) :
    Calls Tryd.prog 23 #[.int .i64 z, .int .i64 zn] w fun e w' => e = .returned (.tuple #[.slice none 0 0, .bool false]) ∧ Below w.heap.size w w' := by
  refine (vorder_any z zn w hV hn hz).mono ?_
  rintro e w' (⟨hok, _⟩ | ⟨_, h, hb⟩)
  · exact absurd hok hno
  · exact ⟨h, hb⟩
/-- A number of a slice, its address written out. -/
theorem iv_cell {w : World} {a : Option Addr} {l : List Int} (h : Has w a (iv l)) (h0 : 0 < l.length) : ∃ g o, a = some ⟨g, o, none⟩ ∧ g < w.heap.size ∧ ∀ j z, l[j]? = some z → w.cell? ⟨g, o + j, none⟩ = some (.int .i64 z) := by
  obtain ⟨g, o, ha, hg, hx⟩ := h.get (by rw [iv_length]; omega)
  exact ⟨g, o, ha, hg, fun j z hz => hx j _ (iv_get hz)⟩
theorem ord34 : ordV 3 4 = [3, 1, 2, 0] := by decide
end Go.Proofs.YtlhnfpkenlenjaaDoor
end
section

/- The verb that undoes one: behind both a row stands as it did; so no number stands twice in an order. No walk. -/
namespace Go.Proofs.YtlhnfpkenlenjaaDoor
open Go.RowKit Go.Lib

/-- The verb that undoes one. -/
def invV : Nat → Nat
  | 1 => 2 | 2 => 1 | 3 => 3 | 4 => 6 | 5 => 7 | 6 => 4 | 7 => 5 | 8 => 10 | 9 => 11 | 10 => 8 | 11 => 9 | 12 => 12 | 13 => 14 | 14 => 13 | 15 => 15 | _ => 0
set_option maxHeartbeats 1600000 in
theorem eV_back1 (n i : Nat) (h : (preV 1).length + (sufV 1).length ≤ n) (hi : i < n) : eV 2 n (eV 1 n i).toNat = i := by
  obtain ⟨z, hz⟩ : ∃ z, z = eV 1 n i := ⟨_, rfl⟩
  obtain ⟨y, hy⟩ : ∃ y, y = z.toNat := ⟨_, rfl⟩
  rw [← hz, ← hy]
  simp only [eV, preC, sufC, preV, sufV, vPre, vSuf, List.getD_cons_succ, List.getD_cons_zero, List.length_cons, List.length_nil, eC, getD1, getD2] at hz h ⊢
  repeat' split at hz
  all_goals (repeat' split) <;> omega
set_option maxHeartbeats 1600000 in
theorem eV_back2 (n i : Nat) (h : (preV 2).length + (sufV 2).length ≤ n) (hi : i < n) : eV 1 n (eV 2 n i).toNat = i := by
  obtain ⟨z, hz⟩ : ∃ z, z = eV 2 n i := ⟨_, rfl⟩
  obtain ⟨y, hy⟩ : ∃ y, y = z.toNat := ⟨_, rfl⟩
  rw [← hz, ← hy]
  simp only [eV, preC, sufC, preV, sufV, vPre, vSuf, List.getD_cons_succ, List.getD_cons_zero, List.length_cons, List.length_nil, eC, getD1, getD2] at hz h ⊢
  repeat' split at hz
  all_goals (repeat' split) <;> omega
set_option maxHeartbeats 1600000 in
theorem eV_back3 (n i : Nat) (h : (preV 3).length + (sufV 3).length ≤ n) (hi : i < n) : eV 3 n (eV 3 n i).toNat = i := by
  obtain ⟨z, hz⟩ : ∃ z, z = eV 3 n i := ⟨_, rfl⟩
  obtain ⟨y, hy⟩ : ∃ y, y = z.toNat := ⟨_, rfl⟩
  rw [← hz, ← hy]
  simp only [eV, preC, sufC, preV, sufV, vPre, vSuf, List.getD_cons_succ, List.getD_cons_zero, List.length_cons, List.length_nil, eC, getD1, getD2] at hz h ⊢
  repeat' split at hz
  all_goals (repeat' split) <;> omega
set_option maxHeartbeats 1600000 in
theorem eV_back4 (n i : Nat) (h : (preV 4).length + (sufV 4).length ≤ n) (hi : i < n) : eV 6 n (eV 4 n i).toNat = i := by
  obtain ⟨z, hz⟩ : ∃ z, z = eV 4 n i := ⟨_, rfl⟩
  obtain ⟨y, hy⟩ : ∃ y, y = z.toNat := ⟨_, rfl⟩
  rw [← hz, ← hy]
  simp only [eV, preC, sufC, preV, sufV, vPre, vSuf, List.getD_cons_succ, List.getD_cons_zero, List.length_cons, List.length_nil, eC, getD1, getD2] at hz h ⊢
  repeat' split at hz
  all_goals (repeat' split) <;> omega
set_option maxHeartbeats 1600000 in
theorem eV_back5 (n i : Nat) (h : (preV 5).length + (sufV 5).length ≤ n) (hi : i < n) : eV 7 n (eV 5 n i).toNat = i := by
  obtain ⟨z, hz⟩ : ∃ z, z = eV 5 n i := ⟨_, rfl⟩
  obtain ⟨y, hy⟩ : ∃ y, y = z.toNat := ⟨_, rfl⟩
  rw [← hz, ← hy]
  simp only [eV, preC, sufC, preV, sufV, vPre, vSuf, List.getD_cons_succ, List.getD_cons_zero, List.length_cons, List.length_nil, eC, getD1, getD2] at hz h ⊢
  repeat' split at hz
  all_goals (repeat' split) <;> omega
set_option maxHeartbeats 1600000 in
theorem eV_back6 (n i : Nat) (h : (preV 6).length + (sufV 6).length ≤ n) (hi : i < n) : eV 4 n (eV 6 n i).toNat = i := by
  obtain ⟨z, hz⟩ : ∃ z, z = eV 6 n i := ⟨_, rfl⟩
  obtain ⟨y, hy⟩ : ∃ y, y = z.toNat := ⟨_, rfl⟩
  rw [← hz, ← hy]
  simp only [eV, preC, sufC, preV, sufV, vPre, vSuf, List.getD_cons_succ, List.getD_cons_zero, List.length_cons, List.length_nil, eC, getD1, getD2] at hz h ⊢
  repeat' split at hz
  all_goals (repeat' split) <;> omega
set_option maxHeartbeats 1600000 in
theorem eV_back7 (n i : Nat) (h : (preV 7).length + (sufV 7).length ≤ n) (hi : i < n) : eV 5 n (eV 7 n i).toNat = i := by
  obtain ⟨z, hz⟩ : ∃ z, z = eV 7 n i := ⟨_, rfl⟩
  obtain ⟨y, hy⟩ : ∃ y, y = z.toNat := ⟨_, rfl⟩
  rw [← hz, ← hy]
  simp only [eV, preC, sufC, preV, sufV, vPre, vSuf, List.getD_cons_succ, List.getD_cons_zero, List.length_cons, List.length_nil, eC, getD1, getD2] at hz h ⊢
  repeat' split at hz
  all_goals (repeat' split) <;> omega
set_option maxHeartbeats 1600000 in
theorem eV_back8 (n i : Nat) (h : (preV 8).length + (sufV 8).length ≤ n) (hi : i < n) : eV 10 n (eV 8 n i).toNat = i := by
  obtain ⟨z, hz⟩ : ∃ z, z = eV 8 n i := ⟨_, rfl⟩
  obtain ⟨y, hy⟩ : ∃ y, y = z.toNat := ⟨_, rfl⟩
  rw [← hz, ← hy]
  simp only [eV, preC, sufC, preV, sufV, vPre, vSuf, List.getD_cons_succ, List.getD_cons_zero, List.length_cons, List.length_nil, eC, getD1, getD2] at hz h ⊢
  repeat' split at hz
  all_goals (repeat' split) <;> omega
set_option maxHeartbeats 1600000 in
theorem eV_back9 (n i : Nat) (h : (preV 9).length + (sufV 9).length ≤ n) (hi : i < n) : eV 11 n (eV 9 n i).toNat = i := by
  obtain ⟨z, hz⟩ : ∃ z, z = eV 9 n i := ⟨_, rfl⟩
  obtain ⟨y, hy⟩ : ∃ y, y = z.toNat := ⟨_, rfl⟩
  rw [← hz, ← hy]
  simp only [eV, preC, sufC, preV, sufV, vPre, vSuf, List.getD_cons_succ, List.getD_cons_zero, List.length_cons, List.length_nil, eC, getD1, getD2] at hz h ⊢
  repeat' split at hz
  all_goals (repeat' split) <;> omega
set_option maxHeartbeats 1600000 in
theorem eV_back10 (n i : Nat) (h : (preV 10).length + (sufV 10).length ≤ n) (hi : i < n) : eV 8 n (eV 10 n i).toNat = i := by
  obtain ⟨z, hz⟩ : ∃ z, z = eV 10 n i := ⟨_, rfl⟩
  obtain ⟨y, hy⟩ : ∃ y, y = z.toNat := ⟨_, rfl⟩
  rw [← hz, ← hy]
  simp only [eV, preC, sufC, preV, sufV, vPre, vSuf, List.getD_cons_succ, List.getD_cons_zero, List.length_cons, List.length_nil, eC, getD1, getD2] at hz h ⊢
  repeat' split at hz
  all_goals (repeat' split) <;> omega
set_option maxHeartbeats 1600000 in
theorem eV_back11 (n i : Nat) (h : (preV 11).length + (sufV 11).length ≤ n) (hi : i < n) : eV 9 n (eV 11 n i).toNat = i := by
  obtain ⟨z, hz⟩ : ∃ z, z = eV 11 n i := ⟨_, rfl⟩
  obtain ⟨y, hy⟩ : ∃ y, y = z.toNat := ⟨_, rfl⟩
  rw [← hz, ← hy]
  simp only [eV, preC, sufC, preV, sufV, vPre, vSuf, List.getD_cons_succ, List.getD_cons_zero, List.length_cons, List.length_nil, eC, getD1, getD2] at hz h ⊢
  repeat' split at hz
  all_goals (repeat' split) <;> omega
set_option maxHeartbeats 1600000 in
theorem eV_back12 (n i : Nat) (h : (preV 12).length + (sufV 12).length ≤ n) (hi : i < n) : eV 12 n (eV 12 n i).toNat = i := by
  obtain ⟨z, hz⟩ : ∃ z, z = eV 12 n i := ⟨_, rfl⟩
  obtain ⟨y, hy⟩ : ∃ y, y = z.toNat := ⟨_, rfl⟩
  rw [← hz, ← hy]
  simp only [eV, preC, sufC, preV, sufV, vPre, vSuf, List.getD_cons_succ, List.getD_cons_zero, List.length_cons, List.length_nil, eC, getD1, getD2] at hz h ⊢
  repeat' split at hz
  all_goals (repeat' split) <;> omega
set_option maxHeartbeats 1600000 in
theorem eV_back13 (n i : Nat) (h : (preV 13).length + (sufV 13).length ≤ n) (hi : i < n) : eV 14 n (eV 13 n i).toNat = i := by
  obtain ⟨z, hz⟩ : ∃ z, z = eV 13 n i := ⟨_, rfl⟩
  obtain ⟨y, hy⟩ : ∃ y, y = z.toNat := ⟨_, rfl⟩
  rw [← hz, ← hy]
  simp only [eV, preC, sufC, preV, sufV, vPre, vSuf, List.getD_cons_succ, List.getD_cons_zero, List.length_cons, List.length_nil, eC, getD1, getD2] at hz h ⊢
  repeat' split at hz
  all_goals (repeat' split) <;> omega
set_option maxHeartbeats 1600000 in
theorem eV_back14 (n i : Nat) (h : (preV 14).length + (sufV 14).length ≤ n) (hi : i < n) : eV 13 n (eV 14 n i).toNat = i := by
  obtain ⟨z, hz⟩ : ∃ z, z = eV 14 n i := ⟨_, rfl⟩
  obtain ⟨y, hy⟩ : ∃ y, y = z.toNat := ⟨_, rfl⟩
  rw [← hz, ← hy]
  simp only [eV, preC, sufC, preV, sufV, vPre, vSuf, List.getD_cons_succ, List.getD_cons_zero, List.length_cons, List.length_nil, eC, getD1, getD2] at hz h ⊢
  repeat' split at hz
  all_goals (repeat' split) <;> omega
set_option maxHeartbeats 1600000 in
theorem eV_back15 (n i : Nat) (h : (preV 15).length + (sufV 15).length ≤ n) (hi : i < n) : eV 15 n (eV 15 n i).toNat = i := by
  obtain ⟨z, hz⟩ : ∃ z, z = eV 15 n i := ⟨_, rfl⟩
  obtain ⟨y, hy⟩ : ∃ y, y = z.toNat := ⟨_, rfl⟩
  rw [← hz, ← hy]
  simp only [eV, preC, sufC, preV, sufV, vPre, vSuf, List.getD_cons_succ, List.getD_cons_zero, List.length_cons, List.length_nil, eC, getD1, getD2] at hz h ⊢
  repeat' split at hz
  all_goals (repeat' split) <;> omega
theorem eV_back (v : Nat) (h1 : 1 ≤ v) (hv : v < 16) : ∀ n i, (preV v).length + (sufV v).length ≤ n → i < n → eV (invV v) n (eV v n i).toNat = i :=
  verbs15 (P := fun v => ∀ n i, (preV v).length + (sufV v).length ≤ n → i < n → eV (invV v) n (eV v n i).toNat = i) eV_back1 eV_back2 eV_back3 eV_back4 eV_back5 eV_back6 eV_back7 eV_back8 eV_back9 eV_back10 eV_back11 eV_back12 eV_back13 eV_back14 eV_back15 v h1 hv
theorem eV_inj (v : Nat) (h1 : 1 ≤ v) (hv : v < 16) (n i j : Nat) (h : (preV v).length + (sufV v).length ≤ n) (hi : i < n) (hj : j < n) (e : eV v n j = eV v n i) : j = i := by
  have g1 := eV_back v h1 hv n i h hi
  have g2 := eV_back v h1 hv n j h hj
  rw [e, g1] at g2
  omega
end Go.Proofs.YtlhnfpkenlenjaaDoor
end
section

/- The frame of a law's proof whose row lists the table of verbs: where the Go text returns true and leaves all old blocks, the table being in memory, the law's row holds. No condition beside the row's. -/
namespace Go.Proofs.YtlhnfpkenlenjaaDoor
open Go.ChangeShapes Go.WideShapes Go.ChangeAt Go.RowKit

def laidV : List (String × DataW Unit) := [("swash/verb.verbs", Rows.laid_swash_verb_verbs)]
theorem gVerbs : Tryd.prog.globalNamed "swash/verb.verbs" = some 0 := by kernel_rfl
theorem tVerbs : (Tryd.prog.globals[0]?).map (·.type) = some 103 := by kernel_rfl
theorem cVerbs : Tryd.prog.cellsOf 103 = 32 := by kernel_rfl
theorem cChange : Tryd.prog.cellsOf 102 = 2 := by kernel_rfl
theorem cString : Tryd.prog.cellsOf 9 = 1 := by kernel_rfl
/-- The door's own heap meets the condition. -/
theorem door_met (os : Os) (args : Array Value) : laidMetH Tryd.prog laidV ((World.doorLaid Tryd.prog 400 os).forCall (fun _ _ => 0) ⟨#[], args, []⟩).memory :=
  laidMetH_of_parts3 (fuel := 8) (laidMet_of_run' 8 (by kernel_rfl) (by kernel_rfl)) (by kernel_rfl) (by kernel_rfl)
def pairsV : List (List UInt8 × List UInt8) := (List.range 16).map fun k => (wasV k, isV k)
theorem laid_is {H : Type} : (Rows.laid_swash_verb_verbs : DataW H) = .agg (pairsV.map fun x => .agg [.lit (.string x.1), .lit (.string x.2)]) := rfl
theorem change_is : ∃ f0 f1 : Field, Tryd.prog.underlying 102 = some (.struct #[f0, f1]) ∧ f0.type = 9 ∧ f0.offset = 0 ∧ f1.type = 9 ∧ f1.offset = 1 :=
  ⟨_, _, Tryd.underlying102, rfl, rfl, rfl, rfl⟩
theorem cells_two {H : Type} {enc : TypeId × Value → H} {W : World} {b : Nat} {sp : Nat → Bool} {hd : Bool} {m : Nat} {cs : List Value} {x : DataW H × List MemPlace} {l1 l2 : List UInt8}
    (h : DataW.trod enc Tryd.prog W b sp hd m 102 cs = some x) (hx : x.1 = .agg [.lit (.string l1), .lit (.string l2)]) : cs[0]? = some (.string (str l1)) ∧ cs[1]? = some (.string (str l2)) := by
  obtain ⟨f0, f1, hu, t0, o0, t1, o1⟩ := change_is
  obtain ⟨y0, y1, n, rfl, hl, h0, h1⟩ := trod_struct2 hu h
  rw [t0, o0, cString] at h0
  rw [t1, o1, cString] at h1
  obtain ⟨s0, e0, rfl, _⟩ := DataW.trod_string Tryd.underlying9 h0
  obtain ⟨s1, e1, rfl, _⟩ := DataW.trod_string Tryd.underlying9 h1
  simp only [DataW.agg.injEq, List.cons.injEq, DataW.lit.injEq, Lit.string.injEq, and_true] at hx
  obtain ⟨rfl, rfl⟩ := hx
  have k0 : ((cs.drop 0).take 1)[0]? = some (.string s0) := by rw [e0]; rfl
  have k1 : ((cs.drop 1).take 1)[0]? = some (.string s1) := by rw [e1]; rfl
  rw [List.getElem?_take, if_pos (by decide), List.getElem?_drop] at k0 k1
  have g : ∀ s : ByteArray, str s.data.toList = s := fun s => by simp [str]
  rw [g, g]
  exact ⟨k0, k1⟩
theorem verbs_of_laid {W : World} (h : laidMetH Tryd.prog laidV W) : VerbsIn W := by
  rw [MakeChecks.laidMetH_plain _ _ _ (by kernel_rfl)] at h
  obtain ⟨ps, ⟨g0, t0, cs0, f0, p0, q0, hg0, ht0, hv0, hd0, _⟩, _, _⟩ := h
  obtain rfl := Option.some.inj (gVerbs.symm.trans hg0)
  obtain rfl := Option.some.inj (tVerbs.symm.trans ht0)
  rw [laid_is] at hd0
  obtain ⟨xs, m1, _, hx1, hlen, hn, hel⟩ := DataW.trod_array Tryd.underlying103 hd0
  simp only [Prod.mk.injEq, DataW.agg.injEq] at hx1
  have key : ∀ k, k < 16 → cs0[k * 2]? = some (.string (str (wasV k))) ∧ cs0[k * 2 + 1]? = some (.string (str (isV k))) := by
    intro k hk
    have h1 := hel k hk
    rw [cChange] at h1
    have hxk : xs[k]? = some xs[k] := List.getElem?_eq_getElem (by omega)
    rw [hxk] at h1
    have hp : (xs.map (·.1))[k]? = some (.agg [.lit (.string (wasV k)), .lit (.string (isV k))]) := by
      rw [← hx1.1]
      simp [pairsV, hk]
    rw [List.getElem?_map, hxk] at hp
    obtain ⟨k0, k1⟩ := cells_two h1 (by simpa using hp)
    rw [List.getElem?_take, if_pos (by decide), List.getElem?_drop] at k0 k1
    exact ⟨by simpa using k0, by simpa using k1⟩
  refine ⟨fun k hk => ?_, fun k hk => ?_⟩
  · rw [World.var?_cell hg0 hv0 (k * 2)]
    simpa using (key k hk).1
  · rw [World.var?_cell hg0 hv0 (k * 2 + 1)]
    simpa using (key k hk).2
/-- What a law's walk must show: of all arguments that are read, where the table of verbs lies in memory. -/
def WalksV (H : Type) (enc : TypeId × Value → H) (F : FuncId) (ts : List TypeId) : Prop :=
  ∀ (W : World) (base : Nat) (args : Array Value) (ds : List (DataW H)) (p : List MemPlace), VerbsIn W →
    (∀ (j : Nat) t v, ts[j]? = some t → args[j]? = some v → Value.okWide Tryd.prog W .any base t v) →
    DataW.TrodAll enc Tryd.prog W 0 (fun _ => true) true ts args.toList ds p →
    (DataW.weightsEach Tryd.prog ts ds).all (· ≤ reachBytes) = true →
    Calls Tryd.prog F args W fun e W' => e = .returned (.bool true) ∧ Below W.heap.size W W'
section
variable {H : Type} {enc : TypeId × Value → H}
set_option maxRecDepth 100000 in
theorem lift_laid {os : Os} {F : FuncId} {fn : Func} {s : ChangeSpec} (started : os.Started) (noInit : Tryd.checked.prog.inits.idxOf? F = none) (hfn : Tryd.checked.prog.funcs[F]? = some fn)
    (witness : ∃ (w : World) (tape : Tape) (i : Input), w.os = os ∧ (w.forCall tape i).Shaped Tryd.checked.prog ∧ i.vars = [] ∧ Input.okWide Tryd.checked.prog (w.forCall tape i) .any w.heap.size F i ∧
      ((s.pre enc Tryd.checked.prog fn [] false (w.forCall tape i).memory i.args ∧ laidMetH Tryd.prog laidV (w.forCall tape i).memory) ∧ sizedMet enc Tryd.checked.prog fn (OpenSpec.ofChange s) false (w.forCall tape i).memory i.args) ∧ ({} : Assume).holds Tryd.checked.prog (lone (Frame.enter Tryd.checked.prog F i.args .normal) [] (w.forCall tape i)))
    (hres : fn.resultTypes = #[4]) (hvars : s.vars = []) (hspec : ∀ ds : List (DataW H), ds.length = fn.params.size → s.fn H (ds ++ []) = { results := [.lit (.bool true)], args := ds })
    (hrd : ∀ t ∈ fn.params.toList, Tryd.prog.readableRec t = true ∧ t < Tryd.prog.types.size) (walk : WalksV H enc F fn.params.toList) :
    ReturnsInHanded {} Tryd.checked os F .any (fun w args => (s.pre enc Tryd.checked.prog fn [] false w args ∧ laidMetH Tryd.prog laidV w) ∧ sizedMet enc Tryd.checked.prog fn (OpenSpec.ofChange s) false w args) (s.post enc Tryd.checked.prog fn false true false false) := by
  refine returnsInHanded_of_change_and (C := Tryd.checked) (X := fun w _ => laidMetH Tryd.prog laidV w) (fun _ _ _ hh h => h.of_heap hh) ownKnob_none started noInit hfn witness ?_
  intro W base args ds gs before hval hW hcnd hsz hL _
  have hW' := hW
  obtain ⟨p, q, hA, hV, rfl, hfz, hnd⟩ := hW
  rw [hvars] at hV
  obtain ⟨rfl, rfl⟩ := trodVars_none hV
  have hv : s.plain.varTypes Tryd.checked.prog = [] := by
    simp [ChangeSpec.plain, DataSpec.varTypes, hvars]
  rw [hv, List.append_nil, List.append_nil] at hsz
  have hlen : ds.length = fn.params.size := by simpa using trod_length hA
  have hval' : ∀ (j : Nat) t v, fn.params.toList[j]? = some t → args[j]? = some v → Value.okWide Tryd.prog W .any base t v := fun j t v ht hv => hval j t v (by rw [Array.getElem?_toList] at ht; exact ht) hv
  have hA' : DataW.TrodAll enc Tryd.prog W 0 (fun _ => true) true fn.params.toList args.toList ds p := hA
  have hsz' : (DataW.weightsEach Tryd.prog fn.params.toList ds).all (· ≤ reachBytes) = true := hsz
  refine (walk W base args ds p (verbs_of_laid hL) hval' hA' hsz').mono fun e W' ⟨he, bel⟩ => ?_
  subst he
  refine ⟨_, rfl, ds, [], _, [], p, [], hW', ?_, ?_, ?_, bel.frame _, fun h => by cases h⟩
  · rw [hspec ds hlen, hres]
    exact trodAll_mk1 (shut_bool Tryd.underlying4 _)
  · rw [hspec ds hlen]
    exact trod_later bel hrd hA
  · rw [hspec ds hlen, hvars]
    rfl
end
end Go.Proofs.YtlhnfpkenlenjaaDoor
end
