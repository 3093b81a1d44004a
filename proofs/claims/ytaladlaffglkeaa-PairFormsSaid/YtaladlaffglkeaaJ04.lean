/- Joined from: KeptE PutF. -/
import Derived.Test.YtaladlaffglkeaaJ03
import Derived.Laws.OwnMore
import Derived.ArgAppend
import Derived.Test.YtaladlaffglkeaaJ02
import Derived.Test.YtaladlaffglkeaaJ01
section

/- Classes of worlds: all blocks that hold no elements of one type are as they were; all blocks that aren't a call's own. A cell of an own row. No condition of its own. -/
namespace Go.Proofs.Ytaladlaffglkeaa
open Go.RowKit

def KeptE (e : TypeId) (w w' : World) : Prop := w.heap.size ≤ w'.heap.size ∧ ∀ (g : Nat) (cs : Array Value) (t : Nat) (fz : Nat × Nat), w.heap[g]? = some (.cells cs t fz) → t ≠ e → w'.heap[g]? = w.heap[g]?
theorem KeptE.refl (e : TypeId) (w : World) : KeptE e w w := ⟨Nat.le_refl _, fun _ _ _ _ _ _ => rfl⟩
theorem KeptE.trans {e : TypeId} {a b c : World} (h : KeptE e a b) (k : KeptE e b c) : KeptE e a c := ⟨Nat.le_trans h.1 k.1, fun g cs t fz hg ht => (k.2 g cs t fz ((h.2 g cs t fz hg ht).trans hg) ht).trans (h.2 g cs t fz hg ht)⟩
theorem KeptE.below {e : TypeId} {w w' : World} (h : Below w.heap.size w w') : KeptE e w w' := ⟨h.size, fun g _ _ _ hg _ => h.block g (Array.getElem?_eq_some_iff.1 hg).1⟩
/-- A row of the call's own isn't a block of another kind. -/
theorem own_neE {w : World} {base size n : Nat} {e : TypeId} {v : Value} {xs : List Value} (h : w.ownsRow base e size v n xs) {g : Nat} {cs : Array Value} {t : Nat} {fz : Nat × Nat} (hg : w.heap[g]? = some (.cells cs t fz)) (ht : t ≠ e) : some g ≠ v.ownBlock := by
  rcases h.2 with ⟨rfl, _⟩ | ⟨g', cap, cur, rfl, _, hh, _⟩
  · simp [Value.ownBlock]
  · simp only [Value.ownBlock, ne_eq, Option.some.injEq]
    rintro rfl
    rw [hg] at hh
    injection hh with hh
    injection hh with _ h2 _
    exact ht h2
theorem KeptE.grown {e : TypeId} {w w' : World} {base size n : Nat} {v : Value} {xs : List Value} (h : w.ownsRow base e size v n xs) (hg : w.grownBy w' v.ownBlock) : KeptE e w w' :=
  ⟨hg.size, fun g _ _ _ h1 ht => hg.block g (Array.getElem?_eq_some_iff.1 h1).1 (own_neE h h1 ht)⟩
theorem KeptE.cell {e : TypeId} {w w' : World} (h : KeptE e w w') {g : Nat} {cs : Array Value} {t : Nat} {fz : Nat × Nat} (hg : w.heap[g]? = some (.cells cs t fz)) (ht : t ≠ e) (o : Nat) : w'.cell? ⟨g, o, none⟩ = cs[o]? := by
  rw [World.cell?_of_block (w := w) (by exact h.2 g cs t fz hg ht)]
  simp [World.cell?, hg]
/-- A row of another kind stays owned. -/
theorem KeptE.owns {e : TypeId} {w w' : World} (h : KeptE e w w') {base size n : Nat} {e' : TypeId} {v : Value} {xs : List Value} (ho : w.ownsRow base e' size v n xs) (hne : e' ≠ e) : w'.ownsRow base e' size v n xs := by
  refine ⟨ho.1, ?_⟩
  rcases ho.2 with g | ⟨g, cap, cur, hv, hg, hh, r⟩
  · exact .inl g
  · exact .inr ⟨g, cap, cur, hv, hg, by rw [h.2 g _ _ _ hh hne]; exact hh, r⟩
structure KepE (e : TypeId) (W : World) where
  val : World
  is : KeptE e W val
instance (e : TypeId) (W : World) : Nonempty (KepE e W) := ⟨⟨W, KeptE.refl e W⟩⟩
theorem kepE_start (e : TypeId) (W : World) : ∃ p : KepE e W, W.drew = p.val := ⟨⟨W.drew, KeptE.below (bdrew1 (brefl W))⟩, rfl⟩
theorem kepE_of {e : TypeId} {W W' : World} (h : KeptE e W W') : ∃ p : KepE e W, W' = p.val := ⟨⟨W', h⟩, rfl⟩
/-- 'append' onto a slice of the call's own, as one operation. -/
theorem wpAppO {P : Program} {w : World} {o : Oper} {a : Act} {K : Act → World → Prop} {Q : Exit → Act → World → Prop} (s x : Operand) (t : TypeId)
    (ho : o.op = .call { callee := .builtin .append, args := #[s, x], argTypes := #[t, t] })
    (base : Nat) (e : TypeId) (z : Value) (size bytes : Nat) (ht : P.underlying t = some (.slice e)) (hi : (P.info? e).map (fun i => (i.zero, i.size, i.bytes)) = some (some z, size, bytes)) (hzs : z.cells.size = size) (hsz : 0 < size)
    (v : Value) (n : Nat) (xs : List Value) (hs : a.eval s = v) (hown : w.ownsRow base e size v n xs)
    (p : Addr) (m c : Nat) (news : List Value) (hx : a.eval x = .slice (some p) m c) (hl : news.length = m * size) (hnews : Has w (some p) news) (h1 : ∀ u ∈ news, u.oneCell' = true)
    (h63 : n + m ≤ maxLen) (hbytes : (n + m) * bytes ≤ 140737488355328) (hbase : base ≤ w.heap.size)
    (h' : ∀ a' c' w', w'.ownsRow base e size (.slice a' (n + m) c') (n + m) (xs ++ news) → n + m ≤ c' → c' ≤ maxLen → (a' = none → c' = 0) → Below base w w' → w.grownBy w' v.ownBlock → K (a.put o.dst (.slice a' (n + m) c')) w') : o.wp P a w K Q := by
  obtain ⟨i, hi, hz, hz1, hz2⟩ := info_parts hi
  refine wp_append_own w s x t ho base e i z size bytes ht hi hz hz1 hz2 hzs hsz v n xs hs hown p m c news hx hl (fun j u hu => ?_) h1 h63 hbytes hbase fun v' w' g1 g2 _ => ?_
  · obtain ⟨q, hq, hc⟩ := hnews j u hu
    cases hq
    exact hc
  · obtain ⟨a', c', rfl, k1, k2, k3⟩ := owns_slice g1
    exact h' a' c' w' g1 k1 k2 k3 ((Below.refl base w).grown g2 hbase fun k hk => (hown.lt k hk).1) g2
theorem heap_set_new {w0 w1 : World} {x v : Value} {t : TypeId} (h : Below (w0.alloc (.cells #[x] t)).heap.size (w0.alloc (.cells #[x] t)) w1) : (w1.setCell ⟨w0.heap.size, 0, none⟩ v).heap[w0.heap.size]? = some (.cells #[v] t (0, 0)) := by
  have h1 : w1.heap[w0.heap.size]? = some (.cells #[x] t (0, 0)) := (h.block w0.heap.size (by simp)).trans (by rw [heap_push, if_pos rfl])
  simp [World.setCell, Array.getElem?_modify, h1]
theorem heap_set_newd {w0 w1 : World} {x v : Value} {t : TypeId} (h : Below (w0.alloc (.cells #[x] t)).drew.heap.size (w0.alloc (.cells #[x] t)).drew w1) : (w1.setCell ⟨w0.heap.size, 0, none⟩ v).heap[w0.heap.size]? = some (.cells #[v] t (0, 0)) :=
  heap_set_new ((Below.refl _ _).drew.trans h)
theorem heap_new (w0 : World) (x : Value) (t : TypeId) : (w0.alloc (.cells #[x] t)).heap[w0.heap.size]? = some (.cells #[x] t (0, 0)) := by rw [heap_push, if_pos rfl]
theorem set_heap_at {w : World} {g o : Nat} {cs : Array Value} {t : TypeId} {fz : Nat × Nat} (v : Value) (h : w.heap[g]? = some (.cells cs t fz)) : (w.setCell ⟨g, o, none⟩ v).heap[g]? = some (.cells (cs.setIfInBounds o v) t fz) := by
  simp [World.setCell, Array.getElem?_modify, h]
theorem set_heap_other {w : World} {g k : Nat} {o : Nat} (v : Value) (h : k ≠ g) : (w.setCell ⟨g, o, none⟩ v).heap[k]? = w.heap[k]? := Below.heap_setCell _ _ _ _ h
theorem set_owns {w : World} {base e size n g o : Nat} {x : Value} {xs : List Value} (v : Value) (h : w.ownsRow base e size x n xs) (hne : some g ≠ x.ownBlock) : (w.setCell ⟨g, o, none⟩ v).ownsRow base e size x n xs :=
  ownsRow_setCell_other h (fun h => hne h.symm) v
theorem cell_of_heap {w : World} {g : Nat} {cs : Array Value} {t : Nat} {fz : Nat × Nat} (h : w.heap[g]? = some (.cells cs t fz)) (o : Nat) : w.cell? ⟨g, o, none⟩ = cs[o]? := by simp [World.cell?, h]
theorem froz_of_heap {w : World} {g : Nat} {cs : Array Value} {t : Nat} (h : w.heap[g]? = some (.cells cs t (0, 0))) (o : Nat) : w.frozen? ⟨g, o, none⟩ = false := by simp [World.frozen?, h]
/-- What a world built of new blocks, draws, stores and contracts' worlds leaves, by its own tactic. -/
theorem blw {w W : World} (h : Below w.heap.size w W := by repeat (first | with_reducible exact brefl _ | with_reducible assumption | (with_reducible refine bset ?_ (by first | (simp; done) | (simp; omega)) _) | with_reducible refine balloc ?_ _ | with_reducible refine bdrew ?_ _ | with_reducible refine bdrew1 ?_ | with_reducible refine bthen ?_ (by assumption) | with_reducible refine Below.trans ?_ (by assumption) | exact brefl _ | assumption | refine balloc ?_ _ | refine bdrew ?_ _ | refine bdrew1 ?_ | refine bthen ?_ (by assumption) | refine Below.trans ?_ (by assumption) | (refine bset ?_ (by first | (simp; done) | (simp; omega)) _))) : Below w.heap.size w W := h
theorem wld_ofA {w W : World} {X : List Nat} (h : Same w X W := by repeat (first | with_reducible exact same_below (brefl _) | with_reducible exact same_below (bdrew1 (brefl _)) | with_reducible assumption | with_reducible refine same_drew ?_ | (with_reducible refine same_set ?_ (by first | (left; simp; done) | (right; simp; done) | (right; simp; omega)) _) | with_reducible refine same_then ?_ (by assumption) | with_reducible refine same_alloc ?_ _ | exact same_below (brefl _) | exact same_realloc (by simp) | exact same_below (bdrew1 (brefl _)) | assumption | refine same_drew ?_ | refine same_then ?_ (by assumption) | refine same_alloc ?_ _ | (refine same_set ?_ (by first | (left; simp; done) | (right; simp; done) | (right; simp; omega)) _))) : ∃ p : Wld w X, W = p.val := wld_of h
theorem bel_ofA {B : Nat} {w W : World} (h : Below B w W := by repeat (first | exact Below.refl _ _ | assumption | refine bdrew1q ?_ | refine balloc ?_ _ | refine bthen ?_ (by assumption) | refine Below.trans ?_ (by assumption))) : ∃ p : BelW B w, W = p.val := bel_of h
def KeptO (own : Nat → Nat → Prop) (w w' : World) : Prop := w.heap.size ≤ w'.heap.size ∧ ∀ (g : Nat) (cs : Array Value) (t : Nat) (fz : Nat × Nat), w.heap[g]? = some (.cells cs t fz) → ¬ own g t → w'.heap[g]? = w.heap[g]?
theorem KeptO.refl (own : Nat → Nat → Prop) (w : World) : KeptO own w w := ⟨Nat.le_refl _, fun _ _ _ _ _ _ => rfl⟩
structure KepP (own : Nat → Nat → Prop) (W : World) where
  val : World
  is : KeptO own W val
instance (own : Nat → Nat → Prop) (W : World) : Nonempty (KepP own W) := ⟨⟨W, KeptO.refl own W⟩⟩
theorem wpAppF {P : Program} {w : World} {ops : Array Oper} {rest : List Oper} {o : Oper} {a : Act} {Q : Exit → Act → World → Prop} (hgd : o.guard = none) (s x : Operand) (t : TypeId)
    (ho : o.op = .call { callee := .builtin .append, args := #[s, x], argTypes := #[t, t] })
    (base : Nat) (e : TypeId) (z : Value) (size bytes : Nat) (ht : P.underlying t = some (.slice e)) (hi : (P.info? e).map (fun i => (i.zero, i.size, i.bytes)) = some (some z, size, bytes)) (hzs : z.cells.size = size) (hsz : 0 < size)
    (ao : Option Addr) (n cap : Nat) (xs : List Value) (hs : a.eval s = .slice ao n cap) (hown : w.ownsRow base e size (.slice ao n cap) n xs)
    (p : Addr) (m c : Nat) (hm : 0 < m) (news : List Value) (hx : a.eval x = .slice (some p) m c) (hl : news.length = m * size) (hnews : Has w (some p) news) (h1 : ∀ u ∈ news, u.oneCell' = true)
    (h63 : n + m ≤ maxLen) (hbytes : (n + m) * bytes ≤ 140737488355328) (hbase : base ≤ w.heap.size)
    (h' : ∀ a' c' w', w'.ownsRow base e size (.slice a' (n + m) c') (n + m) (xs ++ news) → n + m ≤ c' → c' ≤ maxLen → (a' = none → c' = 0) → Below base w w' → w.grownBy w' (Value.slice ao n cap).ownBlock → (a' = ao ∨ ∀ p, a' = some p → w.heap.size ≤ p.block) → wpList P ops Q rest (a.put o.dst (.slice a' (n + m) c')) w') : wpList P ops Q (o :: rest) a w := by
  obtain ⟨i, hi, hz, hz1, hz2⟩ := info_parts hi
  have hnc : ∀ j u, news[j]? = some u → w.cell? (p.add j) = some u := fun j u hu => by
    obtain ⟨q, hq, hc⟩ := hnews j u hu
    cases hq
    exact hc
  obtain ⟨_, _, he, k1, k2, k3⟩ := owns_slice hown
  cases he
  by_cases hfit : n + m ≤ cap
  · rcases hown.2 with ⟨hv, hn0⟩ | ⟨g, cap', cur, hv, _⟩
    · cases hv
      omega
    · injection hv with e1 _ e3
      subst e1 e3
      exact wpList_append_fits w hgd s x t ho base e i size ht hi hz1 g n cap xs hs hown p m c news hx hl hnc h1 hfit fun w' g1 g2 =>
        h' _ _ w' g1 hfit k2 (fun h => by cases h) ((Below.refl base w).grown g2 hbase fun k hk => (hown.lt k (by cases hk; rfl)).1) g2 (.inl rfl)
  · have hlo : xs.length = n * size := hown.1
    refine wpList_append_grows w hgd s x t ho e i z size bytes ht hi hz hz1 hz2 hzs hsz ao n cap xs hs (fun h => ⟨by have := k3 h; omega, k3 h⟩) hlo (fun b hb j u hu => ?_) p m c news hx hl hnc h1 (by omega) h63 hbytes fun v' w' g1 g2 => ?_
    · obtain ⟨q, hq, hc⟩ := has_of_owns hown j u hu
      rw [hb] at hq
      cases hq
      exact hc
    · obtain ⟨a', c', rfl, r1, r2, r3⟩ := owns_slice g1
      have hb : Below w.heap.size w w' := (Below.refl _ w).grown g2 (Nat.le_refl _) (fun k hk => by cases hk)
      refine h' a' c' w' (owns_mono g1 hbase) r1 r2 r3 (hb.mono hbase) ⟨g2.os, g2.tape, g2.output, g2.size, fun k hk _ => g2.block k hk (by simp)⟩ (.inr fun q hq => ?_)
      rcases g1.2 with ⟨hv, _⟩ | ⟨g', cap', cur, hv, hg', _⟩
      · injection hv with _ e2 _; omega
      · injection hv with e1 _ _
        subst e1
        cases hq
        exact hg'
end Go.Proofs.Ytaladlaffglkeaa
end
section

/- The document's Put, and where the new row lies; two rows of bytes that lie apart. Conditions: a slice of the call's own; a number from 0 on. -/
namespace Go.Proofs.Ytaladlaffglkeaa
open Go.RowKit Go.Lib

/-- Blocks but the row's own are as they were; the new row lies there, or in a new block. -/
def PutFar (W : World) (a : Option Addr) (wr : World) (a1 : Option Addr) : Prop :=
  W.heap.size ≤ wr.heap.size ∧ (∀ k, k < W.heap.size → (∀ p, a = some p → p.block ≠ k) → wr.heap[k]? = W.heap[k]?) ∧ (∀ p, a1 = some p → (∃ q, a = some q ∧ q.block = p.block) ∨ W.heap.size ≤ p.block)
theorem PutFar.refl (W : World) (a : Option Addr) : PutFar W a W a := ⟨Nat.le_refl _, fun _ _ _ => rfl, fun p hp => .inl ⟨p, hp, rfl⟩⟩
theorem PutFar.trans {W V U : World} {a b d : Option Addr} (h : PutFar W a V b) (k : PutFar V b U d) : PutFar W a U d := by
  refine ⟨Nat.le_trans h.1 k.1, fun x hx hne => ?_, fun p hp => ?_⟩
  · refine (k.2.1 x (by have := h.1; omega) fun q hq hb => ?_).trans (h.2.1 x hx hne)
    rcases h.2.2 q hq with ⟨r, hr, hr2⟩ | hge
    · exact hne r hr (by rw [hr2]; exact hb)
    · omega
  · rcases k.2.2 p hp with ⟨q, hq, hq2⟩ | hge
    · rcases h.2.2 q hq with ⟨r, hr, hr2⟩ | hge
      · exact .inl ⟨r, hr, by rw [hr2, hq2]⟩
      · exact .inr (by omega)
    · exact .inr (by have := h.1; omega)
theorem PutFar.below {W V : World} (a : Option Addr) (h : Below W.heap.size W V) : PutFar W a V a := ⟨h.size, fun k hk _ => h.block k hk, fun p hp => .inl ⟨p, hp, rfl⟩⟩
theorem PutFar.grown {W V : World} {ao a' : Option Addr} {n cap : Nat} (h : W.grownBy V (Value.slice ao n cap).ownBlock) (h2 : a' = ao ∨ ∀ p, a' = some p → W.heap.size ≤ p.block) : PutFar W ao V a' := by
  refine ⟨h.size, fun k hk hne => h.block k hk fun he => ?_, fun p hp => ?_⟩
  · cases ao with
    | none => simp [Value.ownBlock] at he
    | some q => simp only [Value.ownBlock, Option.some.injEq] at he; exact hne q rfl he.symm
  · rcases h2 with rfl | h2
    · exact .inl ⟨p, hp, rfl⟩
    · exact .inr (h2 p hp)
def PutR2 (W : World) (a0 : Option Addr) (base n : Nat) (xs : List UInt8) (z size : Nat) (b i : Value) (wr : World) : Prop :=
  ∃ s P a c, s ≤ size ∧ P ++ beN s z = beN size z ∧ P.length + s = size ∧ i = .int .i64 ((s : Int) - 1) ∧ b = .slice a (n + P.length) c ∧ wr.ownsRow base 5 1 b (n + P.length) (bytesV (xs ++ P)) ∧ n + P.length ≤ c ∧ c ≤ maxLen ∧ (a = none → c = 0) ∧ Below base W wr ∧ Kept W wr ∧ PutFar W a0 wr a
set_option maxRecDepth 100000 in
set_option maxHeartbeats 1600000 in
theorem put_far (base : Nat) (a : Option Addr) (n c z size : Nat) (xs : List UInt8) (w : World) (hown : w.ownsRow base 5 1 (.slice a n c) n (bytesV xs)) (hbase : base ≤ w.heap.size) (hz : z < 9223372036854775808) (hn : n ≤ 1000000000) (hs : size ≤ 8) :
    Calls Try.prog 70 #[.slice a n c, .int .i64 z, .int .i64 size] w fun e w' => ∃ a' c', e = .returned (.slice a' (n + size) c') ∧ w'.ownsRow base 5 1 (.slice a' (n + size) c') (n + size) (bytesV (xs ++ beN size z)) ∧ n + size ≤ c' ∧ c' ≤ maxLen ∧ (a' = none → c' = 0) ∧ Below base w w' ∧ Kept w w' ∧ PutFar w a w' a' := by
  obtain ⟨_, _, he, k1, k2, k3⟩ := owns_slice hown
  cases he
  have HO := Lib.hid hown
  have HA := Lib.hid k3
  clear hown k3
  go_enter Try.func70, Try.ntmps70
  go_wp2_with fail
  go_loopw [0, 7] (PutR2 w a base n xs z size) (fun _ i _ => ((Go.RowKit.intOf i) + 1).toNat)
  case atStart => exact ⟨size, [], a, c, Nat.le_refl _, rfl, by simp, by first | rfl | go_num, rfl, by simpa using HO.out, by simpa using k1, k2, HA.out, Below.refl _ _, Kept.refl _, PutFar.refl _ _⟩
  case round =>
    obtain ⟨s, P, a1, c1, hss, hP, hPl, rfl, rfl, hox, k11, k12, k13, hbr, hkp, hpf⟩ := hrel
    have HKP := Lib.hid hkp
    have HPF := Lib.hid hpf
    clear hpf
    have hwz := hkp.1
    clear hkp
    have HX := Lib.hid hox
    have HA1 := Lib.hid k13
    have HP := Lib.hid hP
    have HPL := Lib.hid hPl
    have HB := Lib.hid hbr
    clear hox k13 hP hPl hbr
    rcases s with _ | s
    · go_wp2
      go_ret
      have e0 : P = beN size z := by have := HP.out; simpa [beN] using this
      have hpl : P.length = size := by have := HPL.out; omega
      rw [hpl] at HX k11
      exact ⟨a1, c1, by rw [hpl]; rfl, by rw [← e0]; exact HX.out, k11, k12, HA1.out, HB.out, HKP.out, HPF.out⟩
    · have e1 : (((s + 1 : Nat) : Int) - 1) = (s : Int) := by omega
      rw [e1]
      go_wp2_with fail
      go_loopw [8, 9] (fun k j W => ∃ m : Nat, m ≤ s ∧ j = .int .i64 (m : Nat) ∧ k = .int .i64 ((z / 256 ^ m : Nat) : Int) ∧ W = wr) (fun _ j _ => s - (Go.RowKit.intOf j).toNat)
      case atStart => exact ⟨0, Nat.zero_le _, rfl, by simp, by first | rfl | trivial⟩
      case round =>
        obtain ⟨m, hm, rfl, rfl, rfl⟩ := hrel
        have hle : z / 256 ^ m ≤ z := Nat.div_le_self _ _
        by_cases hlt : m < s
        · have e2 : z / 256 ^ (m + 1) = z / 256 ^ m / 256 := by rw [Nat.pow_succ, Nat.div_div_eq_div_mul]
          have E2 := Lib.hid e2
          clear e2
          generalize z / 256 ^ m = q at *
          go_wp2
          go_roundw
          case rel => exact ⟨m + 1, by omega, by go_num, by rw [E2.out]; go_num, by first | rfl | trivial⟩
          case measure => first | (simp [Go.RowKit.intOf]; done) | (simp [Go.RowKit.intOf]; omega)
        · obtain rfl : m = s := by omega
          have e3 : bytesV [UInt8.ofNat (z / 256 ^ m)] = [.int .u8 ((z / 256 ^ m : Nat) % 256 : Int)] := by simp [bytesV, UInt8.toNat_ofNat']
          have E3 := Lib.hid e3
          have hbe : beN (m + 1) z = UInt8.ofNat (z / 256 ^ m) :: beN m z := rfl
          have HBE := Lib.hid hbe
          clear e3 hbe
          generalize z / 256 ^ m = q at *
          have hpm : P.length + (m + 1) = size := HPL.out
          go_wp2_with (at_builtin; refine wpAppF rfl _ _ 22 rfl base 5 (.int .u8 0) 1 1 Try.underlying22 u8_info rfl (by decide) a1 (n + P.length) c1 (bytesV (xs ++ P)) rfl (owns_below HX.out (balloc (brefl wr) _) (Nat.le_refl _)) ⟨wr.heap.size, 0, none⟩ 1 1 (by decide) (bytesV [UInt8.ofNat q]) rfl rfl (by rw [E3.out]; exact has_alloc _ _ _) (bytesV_one _) (by unfold maxLen; omega) (by omega) (by simp; omega) ?_; intro a6 c6 w6 hown6 k61 k62 k63 hb6 hg6 hf6; have HO6 := Lib.hid hown6; have HA6 := Lib.hid k63; have HB6 := Lib.hid hb6; have HG6 := Lib.hid hg6; have HF6 := Lib.hid hf6; clear hown6 k63 hb6 hg6 hf6)
          go_roundw
          case rel => exact ⟨m, P ++ [UInt8.ofNat q], a6, c6, by omega, by have := HP.out; rw [HBE.out] at this; simpa using this, by simp; omega, by first | rfl | go_num, by first | (simp; done) | (simp; rfl), by rw [← List.append_assoc, bytesV_append (xs ++ P), List.length_append, ← Nat.add_assoc]; exact HO6.out, by simp; omega, k62, HA6.out, HB.out.trans (((balloc (brefl wr) _).mono (by omega)).trans HB6.out), HKP.out.trans ((Kept.below (balloc (brefl wr) _)).trans (Kept.grown (owns_below HX.out (balloc (brefl wr) _) (Nat.le_refl _)) HG6.out)), HPF.out.trans ((PutFar.below _ (balloc (brefl wr) _)).trans (PutFar.grown HG6.out HF6.out))⟩
          case measure => first | (simp [Go.RowKit.intOf]; done) | (simp [Go.RowKit.intOf]; omega)

theorem put_z (base : Nat) (a : Option Addr) (n c z size : Nat) (y s : Int) (hy : y = (z : Nat)) (hsz : s = (size : Nat)) (xs : List UInt8) (w : World) (hown : w.ownsRow base 5 1 (.slice a n c) n (bytesV xs)) (hbase : base ≤ w.heap.size) (hz : z < 9223372036854775808) (hn : n ≤ 1000000000) (hs : size ≤ 8) :
    Calls Try.prog 70 #[.slice a n c, .int .i64 y, .int .i64 s] w fun e w' => ∃ a' c', e = .returned (.slice a' (n + size) c') ∧ w'.ownsRow base 5 1 (.slice a' (n + size) c') (n + size) (bytesV (xs ++ beN size z)) ∧ n + size ≤ c' ∧ c' ≤ maxLen ∧ (a' = none → c' = 0) ∧ Below base w w' ∧ Kept w w' ∧ PutFar w a w' a' := by
  subst hy hsz; exact put_far base a n c z size xs w hown hbase hz hn hs
def FarA (a b : Option Addr) : Prop := ∀ p q, a = some p → b = some q → p.block ≠ q.block
theorem owns_lt {w : World} {base e size n cap : Nat} {a : Option Addr} {xs : List Value} (h : w.ownsRow base e size (.slice a n cap) n xs) : ∀ p, a = some p → base ≤ p.block ∧ p.block < w.heap.size := by
  intro p hp
  exact h.lt p.block (by rw [hp]; rfl)
theorem owns_far {W V : World} {a2 a6 a4 : Option Addr} {base e size n cap : Nat} {xs : List Value} (h : W.ownsRow base e size (.slice a4 n cap) n xs) (hp : PutFar W a2 V a6) (hf : FarA a2 a4) : V.ownsRow base e size (.slice a4 n cap) n xs := by
  refine ⟨h.1, ?_⟩
  rcases h.2 with q | ⟨q, cap, cur, hv, hq, hh, r⟩
  · exact .inl q
  · refine .inr ⟨q, cap, cur, hv, hq, ?_, r⟩
    rw [hp.2.1 q (Array.getElem?_eq_some_iff.1 hh).1 (fun p hpa => by
      injection hv with e1 _ _
      exact hf p _ hpa e1)]
    exact hh
theorem far_put {W V : World} {a2 a6 a4 : Option Addr} (hp : PutFar W a2 V a6) (hf : FarA a2 a4) (h4 : ∀ q, a4 = some q → q.block < W.heap.size) : FarA a6 a4 := by
  intro p q h1 h2
  rcases hp.2.2 p h1 with ⟨r, hr, hr2⟩ | hge
  · rw [← hr2]; exact hf r q hr h2
  · have := h4 q h2; omega
/-- Two rows of bytes, not in one block. -/
structure Two (b : Nat) (W : World) (a1 : Option Addr) (n1 c1 : Nat) (x1 : List UInt8) (a2 : Option Addr) (n2 c2 : Nat) (x2 : List UInt8) : Prop where
  o1 : W.ownsRow b 5 1 (.slice a1 n1 c1) n1 (bytesV x1)
  o2 : W.ownsRow b 5 1 (.slice a2 n2 c2) n2 (bytesV x2)
  f : FarA a1 a2
theorem Two.put1 {b : Nat} {W V : World} {a1 a2 a' : Option Addr} {n1 c1 n2 c2 n' c' : Nat} {x1 x2 x' : List UInt8} (h : Two b W a1 n1 c1 x1 a2 n2 c2 x2) (hp : PutFar W a1 V a') (ho : V.ownsRow b 5 1 (.slice a' n' c') n' (bytesV x')) : Two b V a' n' c' x' a2 n2 c2 x2 :=
  ⟨ho, owns_far h.o2 hp h.f, far_put hp h.f (fun q hq => (owns_lt h.o2 q hq).2)⟩
end Go.Proofs.Ytaladlaffglkeaa
end
