/- Joined from: Base View Nums Own Ord Tree Zed Try Frame Ref1 Cut Ref2 Sf2 Put. -/
import Derived.Test.YtaladlaffglkeaaRows
import Derived.WalkKit
import Derived.WalkSpells
import Derived.WalkLawsBesides
import Derived.Lib.QuietBelow
import Derived.BigQuiet
import Derived.Lib.Hide
import Derived.Laws.BytesArg
import Derived.Laws.AppendOwnNone
import Derived.OrdersHeld
import Derived.RegionTactic
import Derived.Laws.OwnMore
import Derived.Defers
import Derived.Recover
import Derived.ProofKit
import Derived.OpenShut
import Derived.ShutString
import Derived.ChangeOld
import Derived.SizedLaws
import Derived.Lib.SmallJoins
import Derived.Deep.Slices
namespace Go.Proofs.Ytaladlaffglkeaa
theorem gtA {p : Prop} (h : p := by simp only [List.getElem?_toArray, List.getElem?_cons_succ, List.getElem?_cons_zero]; rfl) : p := h
end Go.Proofs.Ytaladlaffglkeaa
section

/- Small lemmas on worlds, over any program: cells and marks behind a call that leaves all old blocks, and behind a new block. No condition. -/
namespace Go.Proofs.Ytaladlaffglkeaa
open Go.RowKit

def opqC (w : World) (b o : Nat) : Option Value := w.cell? ⟨b, o, none⟩
def opqF (w : World) (b o : Nat) : Bool := w.frozen? ⟨b, o, none⟩
theorem bc {W w1 : World} (hb : Below W.heap.size W w1) (b o : Nat) : w1.cell? ⟨b, o, none⟩ = if b < W.heap.size then W.cell? ⟨b, o, none⟩ else opqC w1 b o := by
  split
  · rename_i h; exact hb.cell (p := ⟨b, o, none⟩) h
  · rfl
theorem bf {W w1 : World} (hb : Below W.heap.size W w1) (b o : Nat) : w1.frozen? ⟨b, o, none⟩ = if b < W.heap.size then W.frozen? ⟨b, o, none⟩ else opqF w1 b o := by
  split
  · rename_i h; exact hb.frozen (p := ⟨b, o, none⟩) h
  · rfl
theorem heap_push (w : World) (o : Obj) (b : Nat) : (w.alloc o).heap[b]? = if b = w.heap.size then some o else w.heap[b]? := by
  show (w.heap.push o)[b]? = _
  rw [Array.getElem?_push]
theorem allocC (w : World) (cs : Array Value) (t b o : Nat) : (w.alloc (.cells cs t)).cell? ⟨b, o, none⟩ = if b = w.heap.size then cs[o]? else w.cell? ⟨b, o, none⟩ := by
  unfold World.cell?
  rw [heap_push]
  by_cases h : b = w.heap.size <;> simp [h]
theorem allocF (w : World) (cs : Array Value) (t b o : Nat) : (w.alloc (.cells cs t)).frozen? ⟨b, o, none⟩ = if b = w.heap.size then false else w.frozen? ⟨b, o, none⟩ := by
  unfold World.frozen?
  rw [heap_push]
  by_cases h : b = w.heap.size <;> simp [h]
/-- Two steps: the second leaves what the first leaves. -/
theorem bthen {w W w1 : World} (h : Below w.heap.size w W) (hb : Below W.heap.size W w1) : Below w.heap.size w w1 := h.trans (hb.mono h.size)
theorem brefl (w : World) : Below w.heap.size w w := Below.refl _ _
theorem balloc {w W : World} (h : Below w.heap.size w W) (o : Obj) : Below w.heap.size w (W.alloc o) := h.alloc h.size o
theorem bdrew {w W : World} (h : Below w.heap.size w W) (n : Nat) : Below w.heap.size w (W.drewN n) := ⟨h.os, h.tape, h.output, h.size, h.block⟩
theorem bdrew1 {w W : World} (h : Below w.heap.size w W) : Below w.heap.size w W.drew := h.drew
theorem bset {w W : World} (h : Below w.heap.size w W) {p : Addr} (hp : w.heap.size ≤ p.block) (v : Value) : Below w.heap.size w (W.setCell p v) := h.setCell hp v

/-- The cells from an address on hold these values, one behind the other. -/
def Has (w : World) (a : Option Addr) (xs : List Value) : Prop := ∀ j u, xs[j]? = some u → ∃ p, a = some p ∧ w.cell? (p.add j) = some u
theorem cell_lt {w : World} {p : Addr} {v : Value} (h : w.cell? p = some v) : p.block < w.heap.size := World.block_lt_of_cell? w p h
theorem add_block (p : Addr) (j : Nat) : (p.add j).block = p.block := by unfold Addr.add; split <;> rfl
theorem Has.below {w w' : World} {a : Option Addr} {xs : List Value} (h : Has w a xs) (hb : Below w.heap.size w w') : Has w' a xs := by
  intro j u hu
  obtain ⟨p, hp, hc⟩ := h j u hu
  exact ⟨p, hp, by rw [hb.cell (cell_lt hc)]; exact hc⟩
theorem spot_none {w : World} {p : Addr} {v : Value} (h : w.cell? p = some v) : p.spot = none := by
  unfold World.cell? at h
  split at h
  · split at h
    · cases h
    · rename_i hs; simpa using hs
  · cases h
theorem Has.nil (w : World) (a : Option Addr) : Has w a [] := fun _ _ h => by simp at h
/-- An element's cell, its address written out. -/
theorem Has.get {w : World} {a : Option Addr} {xs : List Value} (h : Has w a xs) (h0 : 0 < xs.length) :
    ∃ b o, a = some ⟨b, o, none⟩ ∧ b < w.heap.size ∧ ∀ j u, xs[j]? = some u → w.cell? ⟨b, o + j, none⟩ = some u := by
  obtain ⟨p, hp, hc⟩ := h 0 _ (List.getElem?_eq_getElem h0)
  have hs := spot_none hc
  have hlt := cell_lt hc
  obtain ⟨b, o, s⟩ := p
  simp [Addr.add] at hs hlt
  subst hs
  refine ⟨b, o, hp, hlt, fun j u hu => ?_⟩
  obtain ⟨q, hq, hd⟩ := h j u hu
  rw [hp] at hq
  cases hq
  unfold Addr.add at hd
  split at hd
  · rename_i hj; subst hj; exact hd
  · exact hd
/-- Where the cells from a place on begin: Go keeps the address where nothing would be left. -/
def adv (a : Option Addr) (c k : Nat) : Option Addr := if c = k then a else a.map (·.add k)
theorem Has.adv {w : World} {a : Option Addr} {xs : List Value} (h : Has w a xs) (c k : Nat) (hc : xs.length ≤ c) : Has w (adv a c k) (xs.drop k) := by
  intro j u hu
  rw [List.getElem?_drop] at hu
  have hlt : k + j < xs.length := by
    rcases Nat.lt_or_ge (k + j) xs.length with g | g
    · exact g
    · rw [List.getElem?_eq_none g] at hu; cases hu
  obtain ⟨b, o, rfl, _, hcell⟩ := h.get (by omega)
  have hne : ¬ c = k := by omega
  refine ⟨_, by rw [Proofs.Ytaladlaffglkeaa.adv, if_neg hne]; rfl, ?_⟩
  have hk : ((⟨b, o, none⟩ : Addr).add k).add j = ⟨b, o + (k + j), none⟩ := by
    unfold Addr.add
    by_cases h1 : k = 0 <;> by_cases h2 : j = 0 <;> simp [h1, h2, Nat.add_assoc]
  rw [hk]
  exact hcell _ _ hu
theorem Has.take {w : World} {a : Option Addr} {xs : List Value} (h : Has w a xs) (m : Nat) : Has w a (xs.take m) := by
  intro j u hu
  refine h j u ?_
  rw [List.getElem?_take] at hu
  split at hu
  · exact hu
  · cases hu
theorem has_of_owns {w : World} {base e size n m c : Nat} {a : Option Addr} {xs : List Value} (h : w.ownsRow base e size (.slice a m c) n xs) : Has w a xs := by
  rcases h.2 with ⟨hv, rfl⟩ | ⟨g, cap, cur, hv, _⟩
  · have : xs = [] := List.eq_nil_of_length_eq_zero (by simpa using h.1)
    subst this
    exact Has.nil _ _
  · injection hv with h1 h2 h3
    subst h1
    exact fun j u hu => ⟨_, rfl, h.cells (g := g) rfl j u hu⟩
/-- What is owned from a base on stays owned where the world has turned from a higher base on alone. -/
theorem owns_below {w w' : World} {base e size n B : Nat} {v : Value} {xs : List Value} (h : w.ownsRow base e size v n xs) (hb : Below B w w') (hB : w.heap.size ≤ B) : w'.ownsRow base e size v n xs := by
  refine ⟨h.1, ?_⟩
  rcases h.2 with g | ⟨g, cap, cur, hv, hg, hh, r⟩
  · exact .inl g
  · exact .inr ⟨g, cap, cur, hv, hg, by rw [hb.block g (Nat.lt_of_lt_of_le (Array.getElem?_eq_some_iff.1 hh).1 hB)]; exact hh, r⟩

theorem owns_mono {w : World} {base base' : Nat} {e : TypeId} {size : Nat} {v : Value} {n : Nat} {xs : List Value} (h : w.ownsRow base e size v n xs) (hb : base' ≤ base) : w.ownsRow base' e size v n xs := by
  refine ⟨h.1, ?_⟩
  rcases h.2 with g | ⟨g, cap, cur, hv, hg, r⟩
  · exact .inl g
  · exact .inr ⟨g, cap, cur, hv, Nat.le_trans hb hg, r⟩
/-- Bytes as cells. -/
def bytesV (bs : List UInt8) : List Value := bs.map fun b => .int .u8 b.toNat
theorem bytesV_length (bs : List UInt8) : (bytesV bs).length = bs.length := by simp [bytesV]
theorem bytesV_get (bs : List UInt8) (j : Nat) (h : j < bs.length) : (bytesV bs)[j]? = some (.int .u8 (bs.getD j 0).toNat) := by
  simp [bytesV, List.getElem?_map, List.getElem?_eq_getElem h, List.getD_eq_getElem?_getD]
theorem bytesV_drop (bs : List UInt8) (k : Nat) : (bytesV bs).drop k = bytesV (bs.drop k) := by simp [bytesV]
theorem bytesV_take (bs : List UInt8) (k : Nat) : (bytesV bs).take k = bytesV (bs.take k) := by simp [bytesV]
theorem bytesV_one (bs : List UInt8) : ∀ u ∈ bytesV bs, u.oneCell' = true := by
  intro u hu
  simp only [bytesV, List.mem_map] at hu
  obtain ⟨b, _, rfl⟩ := hu
  rfl
theorem owns_slice {w : World} {base e size n : Nat} {v : Value} {xs : List Value} (h : w.ownsRow base e size v n xs) : ∃ a c, v = .slice a n c ∧ n ≤ c ∧ c ≤ maxLen ∧ (a = none → c = 0) := by
  rcases h.2 with ⟨rfl, rfl⟩ | ⟨g, cap, cur, rfl, _, _, hn, hm, _⟩
  · exact ⟨none, 0, rfl, Nat.le_refl _, Nat.zero_le _, fun _ => rfl⟩
  · exact ⟨_, cap, rfl, hn, hm, fun h => by cases h⟩
/-- 'append' onto a slice of the call's own, whatever is appended: nil, or cells that are read. -/
theorem wpApp {P : Program} {w : World} {ops : Array Oper} {rest : List Oper} {o : Oper} {a : Act} {Q : Exit → Act → World → Prop} (hgd : o.guard = none) (s x : Operand) (t : TypeId)
    (ho : o.op = .call { callee := .builtin .append, args := #[s, x], argTypes := #[t, t] })
    (base : Nat) (e : TypeId) (z : Value) (size bytes : Nat) (ht : P.underlying t = some (.slice e)) (hi : (P.info? e).map (fun i => (i.zero, i.size, i.bytes)) = some (some z, size, bytes)) (hzs : z.cells.size = size) (hsz : 0 < size)
    (v : Value) (n : Nat) (xs : List Value) (hs : a.eval s = v) (hown : w.ownsRow base e size v n xs)
    (A : Option Addr) (m c : Nat) (news : List Value) (hx : a.eval x = .slice A m c) (hl : news.length = m * size) (hnews : Has w A news) (hA : A = none → c = 0) (h1 : ∀ u ∈ news, u.oneCell' = true)
    (h63 : n + m ≤ maxLen) (hbytes : (n + m) * bytes ≤ 140737488355328) (hbase : base ≤ w.heap.size)
    (h' : ∀ a' c' w', w'.ownsRow base e size (.slice a' (n + m) c') (n + m) (xs ++ news) → n + m ≤ c' → c' ≤ maxLen → (a' = none → c' = 0) → Below base w w' → w.grownBy w' v.ownBlock → wpList P ops Q rest (a.put o.dst (.slice a' (n + m) c')) w') : wpList P ops Q (o :: rest) a w := by
  obtain ⟨i, hi, hz, hz1, hz2⟩ := info_parts hi
  have h : ∀ v' w', w'.ownsRow base e size v' (n + m) (xs ++ news) → Below base w w' → w.grownBy w' v.ownBlock → wpList P ops Q rest (a.put o.dst v') w' := by
    intro v' w' g1 g2 g3
    obtain ⟨a', c', rfl, k1, k2, k3⟩ := owns_slice g1
    exact h' a' c' w' g1 k1 k2 k3 g2 g3
  cases A with
  | none =>
    have hn : news = [] := by
      rcases news with _ | ⟨u, us⟩
      · rfl
      · obtain ⟨p, hp, _⟩ := hnews 0 u (by simp)
        cases hp
    subst hn
    have hm : m = 0 := by
      rcases Nat.eq_zero_or_pos m with g | g
      · exact g
      · have := Nat.mul_pos g hsz; simp at hl; omega
    subst hm
    obtain rfl := hA rfl
    refine wpList_append_own_none hgd s x t ho base e i size ht hi v n xs hs hown hx ?_
    exact h v w (by simpa using hown) (Below.refl _ _) (World.grownBy.refl _ _)
  | some p =>
    refine wpList_append_own w hgd s x t ho base e i z size bytes ht hi hz hz1 hz2 hzs hsz v n xs hs hown p m c news hx hl ?_ h1 h63 hbytes hbase ?_
    · intro j u hu
      obtain ⟨q, hq, hc⟩ := hnews j u hu
      cases hq
      exact hc
    · intro v' w' g1 g2 _
      exact h v' w' g1 ((Below.refl base w).grown g2 hbase fun k hk => (hown.lt k hk).1) g2
/-- 'string(b)' of bytes that are known. -/
def str (bs : List UInt8) : ByteArray := ⟨bs.toArray⟩
theorem byte_le (b : UInt8) : b.toNat ≤ 255 := by have := b.toNat_lt; omega
end Go.Proofs.Ytaladlaffglkeaa
end
section

/- Contracts of package view's functions: what each returns, or that it panics by the value that Fail throws; nothing that was there is changed. Conditions: a View's slice has no more bytes than its capacity. -/
namespace Go.Proofs.Ytaladlaffglkeaa
open Go.RowKit

def thrownV : Value := .iface 183 (.agg #[])
def thrown : List PanicEntry := [{ v := thrownV, recovered := false }]

set_option maxHeartbeats 400000 in
theorem len_any (a : Option Addr) (n c : Nat) (w : World) :
    Calls Try.prog 92 #[.agg #[.slice a n c]] w fun e w' => e = .returned (.int .i64 n) ∧ Below w.heap.size w w' := by
  go_enter Try.func92, Try.ntmps92
  go_wp2
  go_ret
  exact ⟨rfl, balloc (brefl _) _⟩

set_option maxHeartbeats 400000 in
theorem fail_any (w : World) :
    Calls Try.prog 122 #[] w fun e w' => e = .panicked thrown ∧ w' = w := by
  go_enter Try.func122, Try.ntmps122
  go_wp2
  exact ⟨rfl, rfl, rfl⟩

set_option maxHeartbeats 400000 in
theorem need_true (w : World) :
    Calls Try.prog 94 #[.bool true] w fun e w' => e = .returned (.tuple #[]) ∧ w' = w := by
  go_enter Try.func94, Try.ntmps94
  go_wp2
  go_end0
  exact ⟨rfl, rfl⟩

set_option maxHeartbeats 400000 in
theorem need_false (w : World) :
    Calls Try.prog 94 #[.bool false] w fun e w' => e = .panicked thrown ∧ w' = w := by
  go_enter Try.func94, Try.ntmps94
  go_wp2_with (go_at_call 122; refine (fail_any _).mono ?_; rintro e w' ⟨rfl, rfl⟩)
  exact ⟨rfl, rfl, rfl⟩
theorem need_t (b : Bool) (h : b = true) (w : World) : Calls Try.prog 94 #[.bool b] w fun e w' => e = .returned (.tuple #[]) ∧ w = w' := by subst h; exact (need_true w).mono fun _ _ h => ⟨h.1, h.2.symm⟩
theorem need_f (b : Bool) (h : b = false) (w : World) : Calls Try.prog 94 #[.bool b] w fun e w' => e = .panicked thrown ∧ w = w' := by subst h; exact (need_false w).mono fun _ _ h => ⟨h.1, h.2.symm⟩

set_option maxHeartbeats 400000 in
theorem rest_ok (a : Option Addr) (n c k : Nat) (w : World) (hk : k ≤ n) (hn : n ≤ c) (hc : c ≤ maxLen) :
    Calls Try.prog 87 #[.agg #[.slice a n c], .int .i64 k] w fun e w' => e = .returned (.agg #[.slice (adv a c k) (n - k) (c - k)]) ∧ Below w.heap.size w w' := by
  unfold maxLen at hc
  have hAC := allocC
  have hAF := allocF
  go_enter Try.func87, Try.ntmps87
  go_wp2_with (first | (go_at_call 92; refine (len_any _ _ _ _).mono ?_; rintro e w' ⟨rfl, hb⟩; have hc1 := bc hb; have hc2 := bf hb; have hz := hb.size; simp only [World.size_alloc] at hz) | (go_at_call 94; refine (need_true _).mono ?_; rintro e w' ⟨rfl, rfl⟩))
  · refine bodyPost_ret (v := .agg #[.slice (adv a k k) (n - k) 0]) (by simp [results, Try.results87, go_sem, hc1, adv, *]) rfl ⟨by simp, ?_⟩
    exact bset (bthen (balloc (balloc (brefl _) _) _) hb) (by simp) _
  · refine bodyPost_ret (v := .agg #[.slice (adv a c k) (n - k) (c - k)]) (by simp [results, Try.results87, go_sem, hc1, adv, *]) rfl ⟨rfl, ?_⟩
    exact bset (bthen (balloc (balloc (brefl _) _) _) hb) (by simp) _

set_option maxHeartbeats 400000 in
theorem rest_bad (a : Option Addr) (n c : Nat) (k : Int) (w : World) (hk : k < 0 ∨ (n : Int) < k) :
    Calls Try.prog 87 #[.agg #[.slice a n c], .int .i64 k] w fun e w' => e = .panicked thrown ∧ Below w.heap.size w w' := by
  have hAC := allocC
  have hAF := allocF
  by_cases h0 : k < 0
  · clear hk
    go_enter Try.func87, Try.ntmps87
    go_wp2_with (go_at_call 94; refine (need_false _).mono ?_; rintro e w' ⟨rfl, rfl⟩)
    exact ⟨rfl, rfl, balloc (balloc (brefl _) _) _⟩
  · have hk' : (n : Int) < k := by omega
    clear hk
    go_enter Try.func87, Try.ntmps87
    go_wp2_with (first | (go_at_call 92; refine (len_any _ _ _ _).mono ?_; rintro e w' ⟨rfl, hb⟩; have hc1 := bc hb; have hc2 := bf hb; have hz := hb.size; simp only [World.size_alloc] at hz) | (go_at_call 94; refine (need_f _ (by simp; omega) _).mono ?_; rintro e w' ⟨rfl, rfl⟩))
    exact ⟨rfl, rfl, bthen (balloc (balloc (brefl _) _) _) hb⟩

set_option maxHeartbeats 400000 in
theorem cut_ok (a : Option Addr) (n c k m : Nat) (w : World) (hk : k + m ≤ n) (hn : n ≤ c) (hc : c ≤ maxLen) :
    Calls Try.prog 134 #[.agg #[.slice a n c], .int .i64 k, .int .i64 m] w fun e w' => e = .returned (.agg #[.slice (adv a c k) m (c - k)]) ∧ Below w.heap.size w w' := by
  have hc' := hc
  unfold maxLen at hc
  have hAC := allocC
  have hAF := allocF
  go_enter Try.func134, Try.ntmps134
  go_wp2_with (first
    | (go_at_call 87; refine (rest_ok _ _ _ _ _ (by omega) hn hc').mono ?_; rintro e w1 ⟨rfl, hb1⟩; have h1c := bc hb1; have h1f := bf hb1; have h1z := hb1.size; try simp only [World.size_alloc] at h1z)
    | (go_at_call 92; refine (len_any _ _ _ _).mono ?_; rintro e w2 ⟨rfl, hb2⟩; have h2c := bc hb2; have h2f := bf hb2; have h2z := hb2.size; try simp only [World.size_alloc] at h2z)
    | (go_at_call 94; refine (need_t _ (by first | rfl | (simp; omega)) _).mono ?_; rintro e w' ⟨rfl, rfl⟩))
  have hlt : w.heap.size + 1 < w1.heap.size + 1 := by omega
  have hlt' : w.heap.size < w1.heap.size := by omega
  have hne : ¬ w.heap.size + 1 = w1.heap.size := by omega
  refine bodyPost_ret (v := .agg #[.slice (adv a c k) m (c - k)]) (by simp [results, Try.results134, go_sem, h2c, h1c, hAC, hlt', hne]) rfl ⟨rfl, ?_⟩
  exact bset (bthen (balloc (bthen (balloc (balloc (brefl _) _) _) hb1) _) hb2) (by simp) _

set_option maxHeartbeats 400000 in
/-- Cut throws: the place is none, the number is below nought, or so many aren't there. -/
theorem cut_bad (a : Option Addr) (n c : Nat) (k m : Int) (w : World) (hk : ¬ (0 ≤ k ∧ k ≤ n ∧ 0 ≤ m ∧ m ≤ n - k)) (hn : n ≤ c) (hc : c ≤ maxLen) :
    Calls Try.prog 134 #[.agg #[.slice a n c], .int .i64 k, .int .i64 m] w fun e w' => e = .panicked thrown ∧ Below w.heap.size w w' := by
  have hc' := hc
  unfold maxLen at hc
  have hAC := allocC
  have hAF := allocF
  by_cases h1 : k < 0 ∨ (n : Int) < k
  · have H1 := Lib.hid h1
    clear hk h1
    go_enter Try.func134, Try.ntmps134
    go_wp2_with (go_at_call 87; refine (rest_bad _ _ _ _ _ H1.out).mono ?_; rintro e w1 ⟨rfl, hb1⟩)
    exact ⟨rfl, rfl, bthen (balloc (balloc (brefl _) _) _) hb1⟩
  · obtain ⟨j, rfl⟩ : ∃ j : Nat, k = j := ⟨k.toNat, by omega⟩
    have hj : j ≤ n := by omega
    by_cases h2 : 0 ≤ m
    · have h3 : (n : Int) - j < m := by omega
      clear hk h1
      go_enter Try.func134, Try.ntmps134
      go_wp2_with (first
        | (go_at_call 87; refine (rest_ok _ _ _ _ _ hj hn hc').mono ?_; rintro e w1 ⟨rfl, hb1⟩; have h1c := bc hb1; have h1f := bf hb1; have h1z := hb1.size; try simp only [World.size_alloc] at h1z)
        | (go_at_call 92; refine (len_any _ _ _ _).mono ?_; rintro e w2 ⟨rfl, hb2⟩; have h2c := bc hb2; have h2f := bf hb2; have h2z := hb2.size; try simp only [World.size_alloc] at h2z)
        | (go_at_call 94; refine (need_f _ (by first | rfl | (simp; omega)) _).mono ?_; rintro e w' ⟨rfl, rfl⟩))
      exact ⟨rfl, rfl, bthen (balloc (bthen (balloc (balloc (brefl _) _) _) hb1) _) hb2⟩
    · clear hk h1
      go_enter Try.func134, Try.ntmps134
      go_wp2_with (first
        | (go_at_call 87; refine (rest_ok _ _ _ _ _ hj hn hc').mono ?_; rintro e w1 ⟨rfl, hb1⟩; have h1c := bc hb1; have h1f := bf hb1; have h1z := hb1.size; try simp only [World.size_alloc] at h1z)
        | (go_at_call 94; refine (need_f _ (by first | rfl | (simp; omega)) _).mono ?_; rintro e w' ⟨rfl, rfl⟩))
      exact ⟨rfl, rfl, balloc (bthen (balloc (balloc (brefl _) _) _) hb1) _⟩
end Go.Proofs.Ytaladlaffglkeaa
end
section

/- Contracts of package view's numbers: U8, U16, U32, I16, I32 of a View whose bytes are known. Conditions: as many bytes as the slice says, no more than its capacity. -/
namespace Go.Proofs.Ytaladlaffglkeaa
open Go.RowKit

/-- The number of so many bytes from a place on, the higher first. -/
def num (bs : List UInt8) (k : Nat) : Nat → Nat
  | 0 => 0
  | i + 1 => 256 * num bs k i + (bs.getD (k + i) 0).toNat
theorem num1 (bs : List UInt8) (k : Nat) : num bs k 1 = (bs.getD k 0).toNat := by simp [num]
theorem num2 (bs : List UInt8) (k : Nat) : num bs k 2 = 256 * (bs.getD k 0).toNat + (bs.getD (k + 1) 0).toNat := by simp [num]
theorem num4 (bs : List UInt8) (k : Nat) : num bs k 4 = 256 * (256 * (256 * (bs.getD k 0).toNat + (bs.getD (k + 1) 0).toNat) + (bs.getD (k + 2) 0).toNat) + (bs.getD (k + 3) 0).toNat := by simp [num]
theorem num2_lt (bs : List UInt8) (k : Nat) : num bs k 2 ≤ 65535 := by
  have := byte_le (bs.getD k 0); have := byte_le (bs.getD (k + 1) 0); rw [num2]; omega
theorem num4_lt (bs : List UInt8) (k : Nat) : num bs k 4 ≤ 4294967295 := by
  have := byte_le (bs.getD k 0); have := byte_le (bs.getD (k + 1) 0); have := byte_le (bs.getD (k + 2) 0); have := byte_le (bs.getD (k + 3) 0); rw [num4]; omega

theorem ofInt64 (a : Nat) (ha : a < 9223372036854775808) : (BitVec.ofInt 64 (a : Int)).toNat = a := by
  rw [BitVec.ofInt_natCast, BitVec.toNat_ofNat]; omega
/-- '|' of a multiple and what is below. -/
theorem or_add (a b i : Nat) (hb : b < 2 ^ i) (hab : a * 2 ^ i + b < 9223372036854775808) : bits .or .i64 ((a * 2 ^ i : Nat) : Int) (b : Int) = ((a * 2 ^ i + b : Nat) : Int) := by
  have h : a * 2 ^ i ||| b = a * 2 ^ i + b := by rw [Nat.mul_comm]; exact (Nat.two_pow_add_eq_or_of_lt hb a).symm
  show IntKind.i64.wrap (((BitVec.ofInt 64 ((a * 2 ^ i : Nat) : Int)) ||| (BitVec.ofInt 64 (b : Int))).toNat : Int) = _
  rw [BitVec.toNat_or, ofInt64 _ (by omega), ofInt64 _ (by omega), h, IntKind.wrap_i64]
  omega
theorem or8 (a b : Nat) (hb : b ≤ 255) (ha : a ≤ 16777215) : bits .or .i64 ((a : Int) * 256) (b : Int) = 256 * (a : Int) + b := by
  have := or_add a b 8 (by omega) (by omega)
  simp only [show (2 ^ 8 : Nat) = 256 from rfl, Int.natCast_mul, Int.natCast_add] at this
  rw [show ((256 : Nat) : Int) = 256 from rfl] at this
  rw [this]; omega

theorem or32 (x0 x1 x2 x3 : Nat) (h0 : x0 ≤ 255) (h1 : x1 ≤ 255) (h2 : x2 ≤ 255) (h3 : x3 ≤ 255) :
    bits .or .i64 (bits .or .i64 (bits .or .i64 ((x0 : Int) * 16777216) ((x1 : Int) * 65536)) ((x2 : Int) * 256)) (x3 : Int) = ((256 * (256 * (256 * x0 + x1) + x2) + x3 : Nat) : Int) := by
  have e1 := or_add x0 (x1 * 2 ^ 16) 24 (by omega) (by omega)
  have e2 := or_add (x0 * 256 + x1) (x2 * 2 ^ 8) 16 (by omega) (by omega)
  have e3 := or_add ((x0 * 256 + x1) * 256 + x2) x3 8 (by omega) (by omega)
  rw [show (x0 : Int) * 16777216 = ((x0 * 2 ^ 24 : Nat) : Int) by omega, show (x1 : Int) * 65536 = ((x1 * 2 ^ 16 : Nat) : Int) by omega, e1,
    show x0 * 2 ^ 24 + x1 * 2 ^ 16 = (x0 * 256 + x1) * 2 ^ 16 by omega, show (x2 : Int) * 256 = ((x2 * 2 ^ 8 : Nat) : Int) by omega, e2,
    show (x0 * 256 + x1) * 2 ^ 16 + x2 * 2 ^ 8 = ((x0 * 256 + x1) * 256 + x2) * 2 ^ 8 by omega, e3]
  omega

theorem fldV (a : Option Addr) (n c : Nat) (w : World) : (Instr.field 93 (.agg #[.slice a n c]) 0).run Try.prog w = .ok (.slice a n c) w := by kernel_rfl

/-- What a call must know of two bytes. -/
theorem two_at {w : World} {a : Option Addr} {bs : List UInt8} {c k m : Nat} (h : Has w a (bytesV bs)) (hc : bs.length ≤ c) (hk : k + m ≤ bs.length) (hm : 0 < m) :
    ∃ b o, adv a c k = some ⟨b, o, none⟩ ∧ b < w.heap.size ∧ ∀ j, j < m → w.cell? ⟨b, o + j, none⟩ = some (.int .u8 (bs.getD (k + j) 0).toNat) := by
  have h' := h.adv c k (by rw [bytesV_length]; exact hc)
  obtain ⟨b, o, ha, hb, hg⟩ := h'.get (by rw [List.length_drop, bytesV_length]; omega)
  refine ⟨b, o, ha, hb, fun j hj => hg j _ ?_⟩
  rw [List.getElem?_drop, bytesV_get _ _ (by omega)]

set_option maxRecDepth 100000 in
set_option maxHeartbeats 400000 in
theorem u8_ok (a : Option Addr) (n c k : Nat) (bs : List UInt8) (w : World) (h : Has w a (bytesV bs)) (hl : bs.length = n) (hk : k + 1 ≤ n) (hn : n ≤ c) (hc : c ≤ maxLen) :
    Calls Try.prog 157 #[.agg #[.slice a n c], .int .i64 k] w fun e w' => e = .returned (.int .i64 (num bs k 1 : Nat)) ∧ Below w.heap.size w w' := by
  obtain ⟨b, o, ha, hb, hx⟩ := two_at (c := c) (k := k) (m := 1) h (by omega) (by omega) (by omega)
  have hx0 := hx 0 (by omega)
  have hcut := fun w => cut_ok a n c k 1 w hk hn hc
  rw [ha] at hcut
  have HC := Lib.hid hcut
  have HN := Lib.hid (num1 bs k)
  have hle := byte_le (bs.getD k 0)
  simp only [Nat.add_zero] at hx0
  generalize (bs.getD k 0).toNat = x0 at *
  clear hcut ha hx h hl
  have hAC := allocC
  have hAF := allocF
  have hF := fldV
  go_enter Try.func157, Try.ntmps157
  go_wp2_with (go_at_call 134; refine (HC.out _).mono ?_; rintro e w1 ⟨rfl, hb1⟩; have h1c := bc hb1; have h1f := bf hb1; have h1z := hb1.size; try simp only [World.size_alloc] at h1z)
  go_ret
  exact ⟨by rw [HN.out]; rfl, bthen (balloc (brefl _) _) hb1⟩

set_option maxRecDepth 100000 in
set_option maxHeartbeats 400000 in
theorem u16_ok (a : Option Addr) (n c k : Nat) (bs : List UInt8) (w : World) (h : Has w a (bytesV bs)) (hl : bs.length = n) (hk : k + 2 ≤ n) (hn : n ≤ c) (hc : c ≤ maxLen) :
    Calls Try.prog 95 #[.agg #[.slice a n c], .int .i64 k] w fun e w' => e = .returned (.int .i64 (num bs k 2 : Nat)) ∧ Below w.heap.size w w' := by
  obtain ⟨b, o, ha, hb, hx⟩ := two_at (c := c) (k := k) (m := 2) h (by omega) (by omega) (by omega)
  have hx0 := hx 0 (by omega)
  have hx1 := hx 1 (by omega)
  have hcut := fun w => cut_ok a n c k 2 w hk hn hc
  rw [ha] at hcut
  have HC := Lib.hid hcut
  have HN := Lib.hid (num2 bs k)
  have hle0 := byte_le (bs.getD k 0)
  have hle1 := byte_le (bs.getD (k + 1) 0)
  simp only [Nat.add_zero] at hx0
  generalize (bs.getD k 0).toNat = x0 at *
  generalize (bs.getD (k + 1) 0).toNat = x1 at *
  clear hcut ha hx h hl
  have hAC := allocC
  have hAF := allocF
  have hF := fldV
  go_enter Try.func95, Try.ntmps95
  go_wp2_with (go_at_call 134; refine (HC.out _).mono ?_; rintro e w1 ⟨rfl, hb1⟩; have h1c := bc hb1; have h1f := bf hb1; have h1z := hb1.size; try simp only [World.size_alloc] at h1z)
  go_quiet (fail)
  go_wp2
  go_ret
  refine ⟨?_, bdrew (bthen (balloc (brefl _) _) hb1) _⟩
  rw [HN.out, or8 _ _ hle1 (by omega)]
  rfl

set_option maxRecDepth 100000 in
set_option maxHeartbeats 800000 in
theorem u32_ok (a : Option Addr) (n c k : Nat) (bs : List UInt8) (w : World) (h : Has w a (bytesV bs)) (hl : bs.length = n) (hk : k + 4 ≤ n) (hn : n ≤ c) (hc : c ≤ maxLen) :
    Calls Try.prog 88 #[.agg #[.slice a n c], .int .i64 k] w fun e w' => e = .returned (.int .i64 (num bs k 4 : Nat)) ∧ Below w.heap.size w w' := by
  obtain ⟨b, o, ha, hb, hx⟩ := two_at (c := c) (k := k) (m := 4) h (by omega) (by omega) (by omega)
  have hx0 := hx 0 (by omega)
  have hx1 := hx 1 (by omega)
  have hx2 := hx 2 (by omega)
  have hx3 := hx 3 (by omega)
  have hcut := fun w => cut_ok a n c k 4 w hk hn hc
  rw [ha] at hcut
  have HC := Lib.hid hcut
  have HN := Lib.hid (num4 bs k)
  have hle0 := byte_le (bs.getD k 0)
  have hle1 := byte_le (bs.getD (k + 1) 0)
  have hle2 := byte_le (bs.getD (k + 2) 0)
  have hle3 := byte_le (bs.getD (k + 3) 0)
  simp only [Nat.add_zero] at hx0
  generalize (bs.getD k 0).toNat = x0 at *
  generalize (bs.getD (k + 1) 0).toNat = x1 at *
  generalize (bs.getD (k + 2) 0).toNat = x2 at *
  generalize (bs.getD (k + 3) 0).toNat = x3 at *
  clear hcut ha hx h hl
  have hAC := allocC
  have hAF := allocF
  have hF := fldV
  go_enter Try.func88, Try.ntmps88
  go_wp2_with (go_at_call 134; refine (HC.out _).mono ?_; rintro e w1 ⟨rfl, hb1⟩; have h1c := bc hb1; have h1f := bf hb1; have h1z := hb1.size; try simp only [World.size_alloc] at h1z)
  go_quiet (fail)
  go_wp2
  go_ret
  refine ⟨?_, bdrew (bthen (balloc (brefl _) _) hb1) _⟩
  rw [HN.out, ← or32 _ _ _ _ hle0 hle1 hle2 hle3]
  rfl

/-- The number of two bytes, of four, below nought, too. -/
def s16 (x : Nat) : Int := if 32768 ≤ x then (x : Int) - 65536 else x
theorem wrap_s16 (x : Nat) (h : x ≤ 65535) : wrap64 (IntKind.i16.wrap x) = s16 x := by
  simp only [IntKind.wrap, IntKind.bits, IntKind.signed, wrap64, s16]; simp; split <;> split <;> omega
set_option maxRecDepth 100000 in
set_option maxHeartbeats 400000 in
theorem i16_ok (a : Option Addr) (n c k : Nat) (bs : List UInt8) (w : World) (h : Has w a (bytesV bs)) (hl : bs.length = n) (hk : k + 2 ≤ n) (hn : n ≤ c) (hc : c ≤ maxLen) :
    Calls Try.prog 93 #[.agg #[.slice a n c], .int .i64 k] w fun e w' => e = .returned (.int .i64 (s16 (num bs k 2))) ∧ Below w.heap.size w w' := by
  have hu := fun w (h : Has w a (bytesV bs)) => u16_ok a n c k bs w h hl hk hn hc
  have HU := Lib.hid hu
  have hle := num2_lt bs k
  generalize num bs k 2 = x at *
  have HH := Lib.hid h
  clear hu h
  go_enter Try.func93, Try.ntmps93
  go_wp2_with (go_at_call 95; refine (HU.out _ (HH.out.below (balloc (brefl _) _))).mono ?_; rintro e w1 ⟨rfl, hb1⟩)
  go_ret
  exact ⟨by rw [← wrap_s16 _ hle]; rfl, bthen (balloc (brefl _) _) hb1⟩

set_option maxRecDepth 100000 in
set_option maxHeartbeats 400000 in
theorem u16_bad (a : Option Addr) (n c : Nat) (k : Int) (w : World) (hk : ¬ (0 ≤ k ∧ k + 2 ≤ n)) (hn : n ≤ c) (hc : c ≤ maxLen) :
    Calls Try.prog 95 #[.agg #[.slice a n c], .int .i64 k] w fun e w' => e = .panicked thrown ∧ Below w.heap.size w w' := by
  have HK := Lib.hid hk
  clear hk
  go_enter Try.func95, Try.ntmps95
  go_wp2_with (go_at_call 134; refine (cut_bad _ _ _ _ _ _ (by have := HK.out; omega) hn hc).mono ?_; rintro e w1 ⟨rfl, hb1⟩)
  exact ⟨rfl, rfl, bthen (balloc (brefl _) _) hb1⟩

set_option maxRecDepth 100000 in
set_option maxHeartbeats 400000 in
theorem u32_bad (a : Option Addr) (n c : Nat) (k : Int) (w : World) (hk : ¬ (0 ≤ k ∧ k + 4 ≤ n)) (hn : n ≤ c) (hc : c ≤ maxLen) :
    Calls Try.prog 88 #[.agg #[.slice a n c], .int .i64 k] w fun e w' => e = .panicked thrown ∧ Below w.heap.size w w' := by
  have HK := Lib.hid hk
  clear hk
  go_enter Try.func88, Try.ntmps88
  go_wp2_with (go_at_call 134; refine (cut_bad _ _ _ _ _ _ (by have := HK.out; omega) hn hc).mono ?_; rintro e w1 ⟨rfl, hb1⟩)
  exact ⟨rfl, rfl, bthen (balloc (brefl _) _) hb1⟩

set_option maxRecDepth 100000 in
set_option maxHeartbeats 400000 in
theorem i16_bad (a : Option Addr) (n c : Nat) (k : Int) (w : World) (hk : ¬ (0 ≤ k ∧ k + 2 ≤ n)) (hn : n ≤ c) (hc : c ≤ maxLen) :
    Calls Try.prog 93 #[.agg #[.slice a n c], .int .i64 k] w fun e w' => e = .panicked thrown ∧ Below w.heap.size w w' := by
  have HK := Lib.hid hk
  clear hk
  go_enter Try.func93, Try.ntmps93
  go_wp2_with (go_at_call 95; refine (u16_bad _ _ _ _ _ HK.out hn hc).mono ?_; rintro e w1 ⟨rfl, hb1⟩)
  exact ⟨rfl, rfl, bthen (balloc (brefl _) _) hb1⟩

end Go.Proofs.Ytaladlaffglkeaa
end
section

/- Contracts of view.Of, (View).Rows, (View).Bytes and slices.Clone of bytes. Conditions: as many bytes as the slice says, no more than its capacity; Bytes: fewer than 2^46. -/
namespace Go.Proofs.Ytaladlaffglkeaa
open Go.RowKit

set_option maxHeartbeats 400000 in
theorem of_any (a : Option Addr) (n c : Nat) (w : World) :
    Calls Try.prog 39 #[.slice a n c] w fun e w' => e = .returned (.agg #[.slice a n c]) ∧ Below w.heap.size w w' := by
  go_enter Try.func39, Try.ntmps39
  go_wp2
  refine bodyPost_ret (v := .agg #[.slice a n c]) (by simp [results, Try.results39, go_sem]) rfl ⟨rfl, ?_⟩
  exact balloc (brefl _) _


theorem adv_zero (a : Option Addr) (c : Nat) : adv a c 0 = a := by
  unfold adv
  cases a <;> simp [Addr.add]

theorem quo_in (x s : Nat) (h : x ≤ 9223372036854775807) : wrap64 ((x : Int) / (s : Int)) = ((x / s : Nat) : Int) := by
  rw [← Int.natCast_ediv]
  have := Nat.div_le_self x s
  generalize x / s = q at *
  exact IntWalk.wrap64_in _ (by omega)
theorem quo_dec (x s m : Nat) (h : x ≤ 9223372036854775807) (hd : m ≤ x / s) : ((s : Int) == 0 || decide ((m : Int) ≤ wrap64 ((x : Int) / (s : Int)))) = true := by
  rw [quo_in x s h]
  generalize x / s = q at *
  have : decide ((m : Int) ≤ (q : Int)) = true := by simp; omega
  rw [this, Bool.or_true]
theorem quo_dec' (x s m : Nat) (h : x ≤ 9223372036854775807) (h0 : ¬ s = 0) (hd : ¬ m ≤ x / s) : ((s : Int) == 0 || decide ((m : Int) ≤ wrap64 ((x : Int) / (s : Int)))) = false := by
  rw [quo_in x s h]
  generalize x / s = q at *
  have h1 : decide ((m : Int) ≤ (q : Int)) = false := by simp; omega
  have h2 : ((s : Int) == 0) = false := by simp; omega
  rw [h1, h2]; rfl

set_option maxHeartbeats 800000 in
theorem rows_ok (a : Option Addr) (n c k m s p : Nat) (w : World) (hp : m * s = p) (hk : k ≤ n) (hs : s = 0 ∨ m ≤ (n - k) / s) (hm : m ≤ 9223372036854775807) (hs' : s ≤ 9223372036854775807) (hn : n ≤ c) (hc : c ≤ maxLen) :
    Calls Try.prog 142 #[.agg #[.slice a n c], .int .i64 k, .int .i64 m, .int .i64 s] w fun e w' => e = .returned (.agg #[.slice (adv a c k) p (c - k)]) ∧ Below w.heap.size w w' := by
  have hc' := hc
  unfold maxLen at hc
  have hle : p ≤ n - k := by
    rw [← hp]
    rcases hs with rfl | h
    · simp
    · exact Nat.le_trans (Nat.mul_le_mul_right _ h) (Nat.div_mul_le_self _ _)
  have hAC := allocC
  have hAF := allocF
  have hcut := fun w => cut_ok (adv a c k) (n - k) (c - k) 0 p w (by omega) (by omega) (by omega)
  rw [adv_zero] at hcut
  have HC := Lib.hid hcut
  clear hcut
  have hmul : IntKind.i64.wrap ((m : Int) * (s : Int)) = (p : Int) := by
    rw [← Int.natCast_mul, hp]; exact IntWalk.i64_in _ (by omega)
  have hmul2 : wrap64 ((m : Int) * (s : Int)) = (p : Int) := by rw [← IntWalk.i64_left]; exact hmul
  by_cases h0 : s = 0
  · subst h0
    obtain rfl : p = 0 := by simpa using hp.symm
    clear hs hle hp
    go_enter Try.func142, Try.ntmps142
    go_wp2_with (first
      | (go_at_call 87; refine (rest_ok _ _ _ _ _ hk hn hc').mono ?_; rintro e w1 ⟨rfl, hb1⟩; have h1c := bc hb1; have h1f := bf hb1; have h1z := hb1.size; try simp only [World.size_alloc] at h1z)
      | (go_at_call 134; refine (HC.out _).mono ?_; rintro e w3 ⟨rfl, hb3⟩; have h3c := bc hb3; have h3f := bf hb3; have h3z := hb3.size; try simp only [World.size_alloc] at h3z)
      | (go_at_call 94; refine (need_t _ (by first | rfl | (simp; omega)) _).mono ?_; rintro e w' ⟨rfl, rfl⟩))
    have hlt' : w.heap.size < w1.heap.size := by omega
    have hne : ¬ w.heap.size + 1 = w1.heap.size := by omega
    have hlt3 : w.heap.size + 1 < w1.heap.size + 1 := by omega
    refine bodyPost_ret (v := .agg #[.slice (adv a c k) 0 (c - k)]) (by simp [results, Try.results142, go_sem, h3c, h1c, hAC, hlt', hne]) rfl ⟨rfl, ?_⟩
    exact bset (bthen (balloc (bthen (balloc (balloc (brefl _) _) _) hb1) _) hb3) (by simp) _
  · have hd : m ≤ (n - k) / s := by omega
    have hnd := quo_dec (n - k) s m (by omega) hd
    have HND := Lib.hid hnd
    clear hs hp hnd hd
    go_enter Try.func142, Try.ntmps142
    go_wp2_with (first
      | (go_at_call 87; refine (rest_ok _ _ _ _ _ hk hn hc').mono ?_; rintro e w1 ⟨rfl, hb1⟩; have h1c := bc hb1; have h1f := bf hb1; have h1z := hb1.size; try simp only [World.size_alloc] at h1z)
      | (go_at_call 92; refine (len_any _ _ _ _).mono ?_; rintro e w2 ⟨rfl, hb2⟩; have h2c := bc hb2; have h2f := bf hb2; have h2z := hb2.size; try simp only [World.size_alloc] at h2z)
      | (go_at_call 134; refine (HC.out _).mono ?_; rintro e w3 ⟨rfl, hb3⟩; have h3c := bc hb3; have h3f := bf hb3; have h3z := hb3.size; try simp only [World.size_alloc] at h3z)
      | (go_at_call 94; refine (need_t _ (by first | rfl | exact HND.out | (simp; omega)) _).mono ?_; rintro e w' ⟨rfl, rfl⟩))
    have hlt' : w.heap.size < w1.heap.size := by omega
    have hne : ¬ w.heap.size + 1 = w1.heap.size := by omega
    have hlt2 : w1.heap.size < w2.heap.size := by omega
    have hlt3 : w.heap.size + 1 < w2.heap.size := by omega
    refine bodyPost_ret (v := .agg #[.slice (adv a c k) p (c - k)]) (by simp [results, Try.results142, go_sem, h3c, h2c, h1c, hAC, hlt', hne, hlt3]) rfl ⟨rfl, ?_⟩
    exact bset (bthen (bthen (balloc (bthen (balloc (balloc (brefl _) _) _) hb1) _) hb2) hb3) (by simp) _

set_option maxHeartbeats 800000 in
theorem rows_bad (a : Option Addr) (n c : Nat) (k m s : Int) (w : World) (hm : m ≤ 9223372036854775807) (hs : s ≤ 9223372036854775807)
    (hk : ¬ (0 ≤ k ∧ k ≤ n ∧ 0 ≤ m ∧ 0 ≤ s ∧ (s = 0 ∨ m.toNat ≤ (n - k.toNat) / s.toNat))) (hn : n ≤ c) (hc : c ≤ maxLen) :
    Calls Try.prog 142 #[.agg #[.slice a n c], .int .i64 k, .int .i64 m, .int .i64 s] w fun e w' => e = .panicked thrown ∧ Below w.heap.size w w' := by
  have hc' := hc
  unfold maxLen at hc
  have hAC := allocC
  have hAF := allocF
  by_cases h1 : k < 0 ∨ (n : Int) < k
  · have H1 := Lib.hid h1
    clear hk h1
    go_enter Try.func142, Try.ntmps142
    go_wp2_with (first | (go_at_call 87; refine (rest_bad _ _ _ _ _ H1.out).mono ?_; rintro e w1 ⟨rfl, hb1⟩; have h1c := bc hb1; have h1f := bf hb1; have h1z := hb1.size; try simp only [World.size_alloc, World.size_drew] at h1z))
    exact ⟨rfl, rfl, bthen (balloc (balloc (brefl _) _) _) hb1⟩
  obtain ⟨j, rfl⟩ : ∃ j : Nat, k = j := ⟨k.toNat, by omega⟩
  have hj : j ≤ n := by omega
  by_cases h2 : m < 0
  · clear hk h1
    go_enter Try.func142, Try.ntmps142
    go_wp2_with (first | (go_at_call 87; refine (rest_ok _ _ _ _ _ hj hn hc').mono ?_; rintro e w1 ⟨rfl, hb1⟩; have h1c := bc hb1; have h1f := bf hb1; have h1z := hb1.size; try simp only [World.size_alloc, World.size_drew] at h1z) | (go_at_call 94; refine (need_f _ (by first | rfl | (simp; omega)) _).mono ?_; rintro e w_ ⟨rfl, rfl⟩))
    exact ⟨rfl, rfl, balloc (bthen (balloc (balloc (brefl _) _) _) hb1) _⟩
  by_cases h3 : s < 0
  · clear hk h1
    go_enter Try.func142, Try.ntmps142
    go_wp2_with (first | (go_at_call 87; refine (rest_ok _ _ _ _ _ hj hn hc').mono ?_; rintro e w1 ⟨rfl, hb1⟩; have h1c := bc hb1; have h1f := bf hb1; have h1z := hb1.size; try simp only [World.size_alloc, World.size_drew] at h1z) | (go_at_call 94; refine (need_f _ (by first | rfl | (simp; omega)) _).mono ?_; rintro e w_ ⟨rfl, rfl⟩))
    exact ⟨rfl, rfl, balloc (bthen (balloc (balloc (brefl _) _) _) hb1) _⟩
  obtain ⟨i, rfl⟩ : ∃ i : Nat, m = i := ⟨m.toNat, by omega⟩
  obtain ⟨t, rfl⟩ : ∃ t : Nat, s = t := ⟨s.toNat, by omega⟩
  simp only [Int.toNat_natCast] at hk
  have h0 : ¬ t = 0 := by omega
  have hnd := quo_dec' (n - j) t i (by omega) h0 (by omega)
  have HND := Lib.hid hnd
  clear hk h1 hnd
  go_enter Try.func142, Try.ntmps142
  go_wp2_with (first
    | (go_at_call 87; refine (rest_ok _ _ _ _ _ hj hn hc').mono ?_; rintro e w1 ⟨rfl, hb1⟩; have h1c := bc hb1; have h1f := bf hb1; have h1z := hb1.size; try simp only [World.size_alloc, World.size_drew] at h1z)
    | (go_at_call 92; refine (len_any _ _ _ _).mono ?_; rintro e w2 ⟨rfl, hb2⟩; have h2c := bc hb2; have h2f := bf hb2; have h2z := hb2.size; try simp only [World.size_alloc, World.size_drew] at h2z)
    | (go_at_call 94; refine (need_f _ (by exact HND.out) _).mono ?_; rintro e w_ ⟨rfl, rfl⟩)
    | (go_at_call 94; refine (need_t _ (by first | rfl | (simp; omega)) _).mono ?_; rintro e w_ ⟨rfl, rfl⟩))
  exact ⟨rfl, rfl, bthen (balloc (bthen (balloc (balloc (brefl _) _) _) hb1) _) hb2⟩

theorem u8_info : (Try.prog.info? 5).map (fun i => (i.zero, i.size, i.bytes)) = some (some (.int .u8 0), 1, 1) := by kernel_rfl


end Go.Proofs.Ytaladlaffglkeaa
end
section

/- A statement whose order Go leaves open, walked once: operations that only read are taken in a chosen order, each shown to yield one value in every world of a class; the others come in the one order that is left to them. No condition of its own. -/
namespace Go.Proofs.Ytaladlaffglkeaa
open Go.RowKit

/-- Does an operation only look: no new memory, no store, no call of a function? -/
def quietOp : Op → Bool
  | .move _ | .assign _ | .pick .. | .build .. | .load .. | .nilCheck _ | .binOp .. | .unOp .. | .makeInterface .. | .makeFunc .. | .slice .. | .fieldAddr .. | .field .. | .indexAddr .. | .index .. | .typeAssert .. | .extract .. | .convert .. => true
  | .call c => match c.callee with | .builtin .len => true | .builtin .cap => true | .builtin .min => true | .builtin .max => true | _ => false
  | _ => false

section
variable {P : Program} {ops : Array Oper} {Q : Exit → Act → World → Prop} {S : World → Prop}

def wpOrd (P : Program) (ops : Array Oper) (Q : Exit → Act → World → Prop) (S : World → Prop) : List Nat → Act → World → Prop
  | [], a, w => Q .normal a w
  | i :: r, a, w => match ops[i]? with
    | none => False
    | some o =>
      if Region.wanted o (yielded ops a.tmps) = true then
        (if quietOp o.op = true then ∃ v, (∀ w', S w' → (execOp a.eval o).run P w' = .ok (.value v) w') ∧ wpOrd P ops Q S r (a.put o.dst v) w
         else o.wp P a w (fun a' w' => S w' ∧ wpOrd P ops Q S r a' w') Q)
      else wpOrd P ops Q S r (a.put o.dst undef) w

def ordB (ops : Array Oper) : List Nat → Array Bool → Bool
  | [], listed => (Region.ready .any ops listed).isEmpty
  | i :: r, listed => (match ops[i]? with
    | some o => if quietOp o.op then (Region.ready .any ops listed).contains i && Region.free .any ops listed i else decide (Region.ready .any ops listed = [i])
    | none => false) && ordB ops r (listed.setIfInBounds i true)

theorem wpOp_skip {i : Nat} {o : Oper} {K : Act → World → Prop} {a : Act} {w : World} (ho : ops[i]? = some o) (hw : ¬ Region.wanted o (yielded ops a.tmps) = true) (h : K (a.put o.dst undef) w) : wpOp P ops Q i K a w := by
  unfold wpOp
  rw [ho]
  show if Region.wanted o (yielded ops a.tmps) = true then _ else _
  rw [if_neg hw]; exact h
theorem wpOp_run {i : Nat} {o : Oper} {K : Act → World → Prop} {a : Act} {w : World} (ho : ops[i]? = some o) (hw : Region.wanted o (yielded ops a.tmps) = true) (h : o.wp P a w K Q) : wpOp P ops Q i K a w := by
  unfold wpOp
  rw [ho]
  show if Region.wanted o (yielded ops a.tmps) = true then _ else _
  rw [if_pos hw]; exact .inl h

theorem wpAnyH_of_ord (hs : Region.noSelect ops = true) (hQ : ∀ (c : List PanicEntry) (a : Act) (d : Option Tmp) (v : Value) (w : World), Q (.panic c) (a.put d v) w → Q (.panic c) a w) :
    ∀ (ord : List Nat) (listed : Array Bool) (a : Act) (w : World), ordB ops ord listed = true → S w → wpOrd P ops Q S ord a w → wpAnyH P .any ops Q S ord.length listed a w
  | [], listed, a, w, hB, _, h => ⟨by simpa [ordB] using hB, h⟩
  | i :: r, listed, a, w, hB, hS, h => by
    simp only [ordB, Bool.and_eq_true] at hB
    obtain ⟨hB1, hB2⟩ := hB
    simp only [wpOrd] at h
    cases ho : ops[i]? with
    | none => rw [ho] at h; exact h.elim
    | some o =>
      rw [ho] at h hB1
      simp only at h hB1
      by_cases hq : quietOp o.op = true
      · rw [if_pos hq] at hB1
        simp only [Bool.and_eq_true] at hB1
        have hready : i ∈ Region.ready .any ops listed := by simpa using hB1.1
        by_cases hw : Region.wanted o (yielded ops a.tmps) = true
        · rw [if_pos hw, if_pos hq] at h
          obtain ⟨v, hv, h'⟩ := h
          exact wpAnyH_first ho (Region.noSelect_spec hs) (fun c a w => hQ c a _ _ w) r.length listed a w (Region.free_spec ho hB1.2) hready (.inl ⟨hw, hv⟩) hS (wpAnyH_of_ord hs hQ r _ _ _ hB2 hS h')
        · rw [if_neg hw] at h
          exact wpAnyH_first ho (Region.noSelect_spec hs) (fun c a w => hQ c a _ _ w) r.length listed a w (Region.free_spec ho hB1.2) hready (.inr ⟨by simpa using hw, rfl⟩) hS (wpAnyH_of_ord hs hQ r _ _ _ hB2 hS h)
      · rw [if_neg hq] at hB1
        have hready : Region.ready .any ops listed = [i] := by simpa using hB1
        refine wpAnyH_all hready (by simp) fun j hj => ?_
        obtain rfl : j = i := by simpa using hj
        by_cases hw : Region.wanted o (yielded ops a.tmps) = true
        · rw [if_pos hw, if_neg hq] at h
          refine wpOp_run ho hw ?_
          exact Oper.wp_mono (fun a' w' g => ⟨g.1, wpAnyH_of_ord hs hQ r _ _ _ hB2 g.1 g.2⟩) h
        · rw [if_neg hw] at h
          exact wpOp_skip ho hw ⟨hS, wpAnyH_of_ord hs hQ r _ _ _ hB2 hS h⟩

theorem wp_region_ord {id : Nat} {a : Act} {w : World} {l : List Oper} (ord : List Nat) (hm : P.follows .mixedOrders = true) (hs : Region.noSelect l.toArray = true) (hlen : decide (l.toArray.size = ord.length) = true)
    (hB : ordB l.toArray ord (Array.replicate l.toArray.size false) = true)
    (hQ : ∀ (c : List PanicEntry) (a : Act) (d : Option Tmp) (v : Value) (w : World), Q (.panic c) (a.put d v) w → Q (.panic c) a w) (S : World → Prop) (hS : S w.drew)
    (h : wpOrd P l.toArray Q S ord a w.drew) : (Code.region id l.toArray true).wp P Q a w := by
  refine wp_region_held (S := S) hm ?_
  have := wpAnyH_of_ord hs hQ ord _ a w.drew hB hS h
  rw [of_decide_eq_true hlen]
  rw [of_decide_eq_true hlen] at this
  exact this

/-! The steps of a walk. -/
theorem ord_nil {a : Act} {w : World} (h : Q .normal a w) : wpOrd P ops Q S [] a w := h
theorem bind_value {s : Sem Value} {w w' : World} {n : Next} (h : (do let x ← s; pure (Next.value x) : Sem Next).run P w = .ok n w') : ∃ v, n = .value v := by
  rw [Sem.run_bind] at h
  cases hr : s.run P w with
  | ok v w1 =>
    rw [hr] at h
    simp only [Result.andThen, Sem.run_pure, Result.ok.injEq] at h
    exact ⟨v, h.1.symm⟩
  | halt x w1 => rw [hr] at h; cases h
/-- What only looks yields a value. -/
theorem quiet_next {o : Oper} {ρ : Operand → Value} {w w' : World} {n : Next} (hq : quietOp o.op = true) (h : (execOp ρ o).run P w = .ok n w') : ∃ v, n = .value v := by
  obtain ⟨d, op, ty, ps, af, gd⟩ := o
  cases op <;> simp only [quietOp, Bool.false_eq_true] at hq
  case call c =>
    obtain ⟨ce, args, at'⟩ := c
    cases ce <;> simp only [Bool.false_eq_true] at hq
    rename_i b
    cases b <;> simp only [Bool.false_eq_true] at hq
    all_goals
      simp only [execOp, resolve, Sem.run_bind, Sem.run_pure, Result.andThen_ok, invoke, builtin] at h
      exact bind_value (by simpa only [Sem.run_bind, Sem.run_pure] using h)
  case nilCheck x =>
    simp only [execOp] at h
    split at h
    · simp [runtimePanic, goPanic, Sem.run_bind] at h
    · simp [runtimePanic, goPanic, Sem.run_bind] at h
    · simp [runtimePanic, goPanic, Sem.run_bind] at h
    · split at h
      · simp [runtimePanic, goPanic, Sem.run_bind] at h
      · rw [Sem.run_bind] at h
        cases hr : (program : Sem Program).run P w with
        | ok p w1 =>
          rw [hr] at h
          simp only [Result.andThen] at h
          rw [Sem.run_bind] at h
          cases hr2 : Sem.run P (nilAhead (p.types.size + Made.depth) _ _ _) w1 with
          | ok x w2 =>
            rw [hr2] at h
            simp only [Result.andThen] at h
            split at h
            · simp [unsupported, Sem.run_bind] at h
            · simp only [Sem.run_pure, Result.ok.injEq] at h; exact ⟨_, h.1.symm⟩
          | halt x w2 => rw [hr2] at h; cases h
        | halt x w1 => rw [hr] at h; cases h
      · simp only [Sem.run_pure, Result.ok.injEq] at h; exact ⟨_, h.1.symm⟩
    · simp only [Sem.run_pure, Result.ok.injEq] at h; exact ⟨_, h.1.symm⟩
  case move x => simp only [execOp, Sem.run_pure, Result.ok.injEq] at h; exact ⟨_, h.1.symm⟩
  case assign x => simp only [execOp, Sem.run_pure, Result.ok.injEq] at h; exact ⟨_, h.1.symm⟩
  case pick c a b =>
    simp only [execOp] at h
    rw [Sem.run_bind] at h
    cases hr : (asBool (ρ c)).run P w with
    | ok v w1 =>
      rw [hr] at h
      simp only [Result.andThen, Sem.run_pure, Result.ok.injEq] at h
      exact ⟨_, h.1.symm⟩
    | halt x w1 => rw [hr] at h; cases h
  all_goals exact bind_value h
theorem quiet_value {o : Oper} {a : Act} {w : World} {v : Value} (hq : quietOp o.op = true) (h : o.quietAt P a S w v) : (execOp a.eval o).run P w = .ok (.value v) w := by
  unfold Oper.quietAt at h
  cases hr : (execOp a.eval o).run P w with
  | ok n w1 =>
    obtain ⟨u, rfl⟩ := quiet_next hq hr
    rw [hr] at h
    simp only [Oper.quietUpon] at h
    rw [h.1, h.2]
  | halt x w1 => rw [hr] at h; simp only [Oper.quietUpon] at h
theorem ord_quiet {i : Nat} {r : List Nat} {a : Act} {w : World} {o : Oper} (ho : ops[i]? = some o) (hq : quietOp o.op = true) (hw : Region.wanted o (yielded ops a.tmps) = true)
    (h : ∀ K : Act → Prop, (∀ a, wpOrd P ops Q S r a w → K a) → o.quiet P a S K) : wpOrd P ops Q S (i :: r) a w := by
  obtain ⟨v, h1, h2⟩ := h _ (fun _ h => h)
  simp only [wpOrd, ho]
  rw [if_pos hw, if_pos hq]
  exact ⟨v, fun w' hw' => quiet_value hq (h1 w' hw'), h2⟩
end

/-! The class of worlds: as at the region's beginning, but for new blocks and the blocks of a list. -/
structure Same (w : World) (X : List Nat) (w' : World) : Prop where
  size : w.heap.size ≤ w'.heap.size
  block : ∀ k, k < w.heap.size → k ∉ X → w'.heap[k]? = w.heap[k]?
structure Wld (w : World) (X : List Nat) where
  val : World
  is : Same w X val
theorem same_below {w w' : World} {X : List Nat} (h : Below w.heap.size w w') : Same w X w' := ⟨h.size, fun k hk _ => h.block k hk⟩
instance (w : World) (X : List Nat) : Nonempty (Wld w X) := ⟨⟨w, same_below (brefl w)⟩⟩
theorem same_then {w W w1 : World} {X : List Nat} (h : Same w X W) (hb : Below W.heap.size W w1) : Same w X w1 :=
  ⟨Nat.le_trans h.size hb.size, fun k hk hX => (hb.block k (Nat.lt_of_lt_of_le hk h.size)).trans (h.block k hk hX)⟩
theorem same_set {w W : World} {X : List Nat} (h : Same w X W) {p : Addr} (hp : p.block ∈ X ∨ w.heap.size ≤ p.block) (v : Value) : Same w X (W.setCell p v) :=
  ⟨by simpa using h.size, fun k hk hX => by
    rw [Below.heap_setCell _ _ _ _ (by rintro rfl; rcases hp with hp | hp; exact hX hp; omega)]; exact h.block k hk hX⟩
theorem same_alloc {w W : World} {X : List Nat} (h : Same w X W) (o : Obj) : Same w X (W.alloc o) := same_then h (balloc (brefl _) o)
theorem wld_start (w : World) (X : List Nat) : ∃ p : Wld w X, w.drew = p.val := ⟨⟨w.drew, same_below (bdrew1 (brefl w))⟩, rfl⟩
theorem wld_of {w W : World} {X : List Nat} (h : Same w X W) : ∃ p : Wld w X, W = p.val := ⟨⟨W, h⟩, rfl⟩
theorem wldC {w : World} (p : Wld w []) (b o : Nat) : p.val.cell? ⟨b, o, none⟩ = if b < w.heap.size then w.cell? ⟨b, o, none⟩ else opqC p.val b o := by
  split
  · rename_i h; exact World.cell?_of_block (p.is.block b h (by simp))
  · rfl
theorem wldC1 {w : World} {x : Nat} (p : Wld w [x]) (b o : Nat) : p.val.cell? ⟨b, o, none⟩ = if b < w.heap.size ∧ ¬ b = x then w.cell? ⟨b, o, none⟩ else opqC p.val b o := by
  split
  · rename_i h; exact World.cell?_of_block (p.is.block b h.1 (by simpa using h.2))
  · rfl
end Go.Proofs.Ytaladlaffglkeaa
end
section

/- As Ord, where two operations that do more than look may come next, in either order: both are walked. And classes of worlds in which some cells hold known values. No condition of its own. -/
namespace Go.Proofs.Ytaladlaffglkeaa
open Go.RowKit

inductive Tree where
  | nil
  | step (i : Nat) (r : Tree)
  | two (i : Nat) (r : Tree) (j : Nat) (s : Tree)
  | narrow (r : Tree)
def Tree.deep : Tree → Nat
  | .nil => 0
  | .step _ r => r.deep + 1
  | .two _ r _ _ => r.deep + 1
  | .narrow r => r.deep

section
variable {P : Program} {ops : Array Oper} {Q : Exit → Act → World → Prop} {S : World → Prop}

def wpTree (P : Program) (ops : Array Oper) (Q : Exit → Act → World → Prop) : (World → Prop) → Tree → Act → World → Prop
  | _, .nil, a, w => Q .normal a w
  | S, .step i r, a, w => match ops[i]? with
    | none => False
    | some o =>
      if Region.wanted o (yielded ops a.tmps) = true then
        (if quietOp o.op = true then ∃ v, (∀ w', S w' → (execOp a.eval o).run P w' = .ok (.value v) w') ∧ wpTree P ops Q S r (a.put o.dst v) w
         else o.wp P a w (fun a' w' => S w' ∧ wpTree P ops Q S r a' w') Q)
      else wpTree P ops Q S r (a.put o.dst undef) w
  | S, .two i r j s, a, w => match ops[i]?, ops[j]? with
    | some o, some p =>
      Region.wanted o (yielded ops a.tmps) = true ∧ Region.wanted p (yielded ops a.tmps) = true ∧
        o.wp P a w (fun a' w' => S w' ∧ wpTree P ops Q S r a' w') Q ∧ p.wp P a w (fun a' w' => S w' ∧ wpTree P ops Q S s a' w') Q
    | _, _ => False
  | S, .narrow r, a, w => ∃ S' : World → Prop, (∀ w, S' w → S w) ∧ S' w ∧ wpTree P ops Q S' r a w

def treeB (ops : Array Oper) : Tree → Array Bool → Bool
  | .nil, listed => (Region.ready .any ops listed).isEmpty
  | .step i r, listed => (match ops[i]? with
    | some o => if quietOp o.op then (Region.ready .any ops listed).contains i && Region.free .any ops listed i else decide (Region.ready .any ops listed = [i])
    | none => false) && treeB ops r (listed.setIfInBounds i true)
  | .narrow r, listed => treeB ops r listed
  | .two i r j s, listed => decide (Region.ready .any ops listed = [i, j]) && decide (r.deep = s.deep) && treeB ops r (listed.setIfInBounds i true) && treeB ops s (listed.setIfInBounds j true)

theorem wpAnyH_class {md : Region.Mode} {S S' : World → Prop} (hSS : ∀ w, S' w → S w) : ∀ (n : Nat) (listed : Array Bool) (a : Act) (w : World), wpAnyH P md ops Q S' n listed a w → wpAnyH P md ops Q S n listed a w
  | 0, _, _, _, h => h
  | n + 1, _, _, _, h => ⟨h.1, fun i hi => wpOp_mono (fun a' w' g => ⟨hSS _ g.1, wpAnyH_class hSS n _ a' w' g.2⟩) (h.2 i hi)⟩
theorem wpAnyH_of_tree (hs : Region.noSelect ops = true) (hQ : ∀ (c : List PanicEntry) (a : Act) (d : Option Tmp) (v : Value) (w : World), Q (.panic c) (a.put d v) w → Q (.panic c) a w) :
    ∀ (t : Tree) (S : World → Prop) (listed : Array Bool) (a : Act) (w : World), treeB ops t listed = true → S w → wpTree P ops Q S t a w → wpAnyH P .any ops Q S t.deep listed a w
  | .nil, S, listed, a, w, hB, _, h => ⟨by simpa [treeB] using hB, h⟩
  | .narrow r, S, listed, a, w, hB, hS, h => by
    simp only [wpTree] at h
    obtain ⟨S', h1, h2, h3⟩ := h
    exact wpAnyH_class h1 _ _ _ _ (wpAnyH_of_tree hs hQ r S' listed a w (by simpa [treeB] using hB) h2 h3)
  | .step i r, S, listed, a, w, hB, hS, h => by
    simp only [treeB, Bool.and_eq_true] at hB
    obtain ⟨hB1, hB2⟩ := hB
    simp only [wpTree] at h
    cases ho : ops[i]? with
    | none => rw [ho] at h; exact h.elim
    | some o =>
      rw [ho] at h hB1
      simp only at h hB1
      by_cases hq : quietOp o.op = true
      · rw [if_pos hq] at hB1
        simp only [Bool.and_eq_true] at hB1
        have hready : i ∈ Region.ready .any ops listed := by simpa using hB1.1
        by_cases hw : Region.wanted o (yielded ops a.tmps) = true
        · rw [if_pos hw, if_pos hq] at h
          obtain ⟨v, hv, h'⟩ := h
          exact wpAnyH_first ho (Region.noSelect_spec hs) (fun c a w => hQ c a _ _ w) r.deep listed a w (Region.free_spec ho hB1.2) hready (.inl ⟨hw, hv⟩) hS (wpAnyH_of_tree hs hQ r S _ _ _ hB2 hS h')
        · rw [if_neg hw] at h
          exact wpAnyH_first ho (Region.noSelect_spec hs) (fun c a w => hQ c a _ _ w) r.deep listed a w (Region.free_spec ho hB1.2) hready (.inr ⟨by simpa using hw, rfl⟩) hS (wpAnyH_of_tree hs hQ r S _ _ _ hB2 hS h)
      · rw [if_neg hq] at hB1
        have hready : Region.ready .any ops listed = [i] := by simpa using hB1
        refine wpAnyH_all hready (by simp) fun j hj => ?_
        obtain rfl : j = i := by simpa using hj
        by_cases hw : Region.wanted o (yielded ops a.tmps) = true
        · rw [if_pos hw, if_neg hq] at h
          refine wpOp_run ho hw ?_
          exact Oper.wp_mono (fun a' w' g => ⟨g.1, wpAnyH_of_tree hs hQ r S _ _ _ hB2 g.1 g.2⟩) h
        · rw [if_neg hw] at h
          exact wpOp_skip ho hw ⟨hS, wpAnyH_of_tree hs hQ r S _ _ _ hB2 hS h⟩
  | .two i r j s, S, listed, a, w, hB, hS, h => by
    simp only [treeB, Bool.and_eq_true, decide_eq_true_eq] at hB
    obtain ⟨⟨⟨hready, hd⟩, hB1⟩, hB2⟩ := hB
    simp only [wpTree] at h
    cases ho : ops[i]? with
    | none => rw [ho] at h; exact h.elim
    | some o =>
      cases hp : ops[j]? with
      | none => rw [ho, hp] at h; exact h.elim
      | some p =>
        rw [ho, hp] at h
        obtain ⟨hw1, hw2, h1, h2⟩ := h
        refine wpAnyH_all hready (by simp) fun k hk => ?_
        have hk' : k = i ∨ k = j := by simpa using hk
        rcases hk' with rfl | rfl
        · refine wpOp_run ho hw1 ?_
          exact Oper.wp_mono (fun a' w' g => ⟨g.1, wpAnyH_of_tree hs hQ r S _ _ _ hB1 g.1 g.2⟩) h1
        · refine wpOp_run hp hw2 ?_
          have := Oper.wp_mono (fun a' w' g => (⟨g.1, wpAnyH_of_tree hs hQ s S _ _ _ hB2 g.1 g.2⟩ : S w' ∧ _)) h2
          rw [← hd] at this
          exact this

theorem wp_region_tree {id : Nat} {a : Act} {w : World} {l : List Oper} (t : Tree) (hm : P.follows .mixedOrders = true) (hs : Region.noSelect l.toArray = true) (hlen : decide (l.toArray.size = t.deep) = true)
    (hB : treeB l.toArray t (Array.replicate l.toArray.size false) = true)
    (hQ : ∀ (c : List PanicEntry) (a : Act) (d : Option Tmp) (v : Value) (w : World), Q (.panic c) (a.put d v) w → Q (.panic c) a w) (S : World → Prop) (hS : S w.drew)
    (h : wpTree P l.toArray Q S t a w.drew) : (Code.region id l.toArray true).wp P Q a w := by
  refine wp_region_held (S := S) hm ?_
  have := wpAnyH_of_tree hs hQ t S _ a w.drew hB hS h
  rw [of_decide_eq_true hlen]
  rw [of_decide_eq_true hlen] at this
  exact this

/-! The steps of a walk. -/
theorem tree_nil {a : Act} {w : World} (h : Q .normal a w) : wpTree P ops Q S .nil a w := h
theorem tree_quiet {i : Nat} {r : Tree} {a : Act} {w : World} {o : Oper} (ho : ops[i]? = some o) (hq : quietOp o.op = true) (hw : Region.wanted o (yielded ops a.tmps) = true)
    (h : ∀ K : Act → Prop, (∀ a, wpTree P ops Q S r a w → K a) → o.quiet P a S K) : wpTree P ops Q S (.step i r) a w := by
  obtain ⟨v, h1, h2⟩ := h _ (fun _ h => h)
  simp only [wpTree, ho]
  rw [if_pos hw, if_pos hq]
  exact ⟨v, fun w' hw' => quiet_value hq (h1 w' hw'), h2⟩
theorem tree_skip {i : Nat} {r : Tree} {a : Act} {w : World} {o : Oper} (ho : ops[i]? = some o) (hw : Region.wanted o (yielded ops a.tmps) = false) (h : wpTree P ops Q S r (a.put o.dst undef) w) : wpTree P ops Q S (.step i r) a w := by
  simp only [wpTree, ho]
  rw [if_neg (by rw [hw]; exact Bool.false_ne_true)]
  exact h
theorem tree_run {i : Nat} {r : Tree} {a : Act} {w : World} {o : Oper} (ho : ops[i]? = some o) (hq : quietOp o.op = false) (hw : Region.wanted o (yielded ops a.tmps) = true)
    (h : ∀ K : Act → World → Prop, (∀ a w, S w → wpTree P ops Q S r a w → K a w) → o.wp P a w K Q) : wpTree P ops Q S (.step i r) a w := by
  simp only [wpTree, ho]
  rw [if_pos hw, if_neg (by rw [hq]; exact Bool.false_ne_true)]
  exact h _ fun _ _ h1 h2 => ⟨h1, h2⟩
theorem tree_two {i j : Nat} {r s : Tree} {a : Act} {w : World} {o p : Oper} (ho : ops[i]? = some o) (hp : ops[j]? = some p) (hw : Region.wanted o (yielded ops a.tmps) = true) (hw2 : Region.wanted p (yielded ops a.tmps) = true)
    (h : ∀ K : Act → World → Prop, (∀ a w, S w → wpTree P ops Q S r a w → K a w) → o.wp P a w K Q) (h2 : ∀ K : Act → World → Prop, (∀ a w, S w → wpTree P ops Q S s a w → K a w) → p.wp P a w K Q) : wpTree P ops Q S (.two i r j s) a w := by
  simp only [wpTree, ho, hp]
  exact ⟨hw, hw2, h _ fun _ _ h1 h2 => ⟨h1, h2⟩, h2 _ fun _ _ h1 h2 => ⟨h1, h2⟩⟩
theorem tree_narrow {S' : World → Prop} {r : Tree} {a : Act} {w : World} (h1 : ∀ w, S' w → S w) (h2 : S' w) (h : wpTree P ops Q S' r a w) : wpTree P ops Q S (.narrow r) a w := by
  simp only [wpTree]
  exact ⟨S', h1, h2, h⟩
/-- The class of worlds moves on: from here it is what stays as it is now, but for the blocks of a list. -/
theorem tree_move {W W' : World} {X : List Nat} {r : Tree} {a : Act} (h : Same W X W')
    (k : (∀ (p : Wld W' X) (b o : Nat), p.val.cell? ⟨b, o, none⟩ = if b < W'.heap.size ∧ b ∉ X then W'.cell? ⟨b, o, none⟩ else opqC p.val b o) → wpTree P ops Q (fun w => ∃ p : Wld W' X, w = p.val) r a W') : wpTree P ops Q (fun w => ∃ p : Wld W X, w = p.val) (.narrow r) a W' := by
  refine tree_narrow ?_ ⟨⟨W', ⟨Nat.le_refl _, fun _ _ _ => rfl⟩⟩, rfl⟩ (k fun p b o => ?_)
  · rintro w ⟨p, rfl⟩
    exact ⟨⟨p.val, ⟨Nat.le_trans h.size p.is.size, fun k hk hX => (p.is.block k (Nat.lt_of_lt_of_le hk h.size) hX).trans (h.block k hk hX)⟩⟩, rfl⟩
  · split
    · rename_i hb; exact World.cell?_of_block (p.is.block b hb.1 hb.2)
    · rfl
theorem same_realloc {w : World} {X : List Nat} {o o' : Obj} (h : w.heap.size ∈ X) : Same (w.alloc o) X (w.alloc o') :=
  ⟨by simp, fun k hk hX => by
    show (w.heap.push o')[k]? = (w.heap.push o)[k]?
    rw [Array.getElem?_push, Array.getElem?_push]
    split
    · rename_i he; subst he; exact absurd h hX
    · rfl⟩
end

attribute [irreducible] wpTree
/-- What several orders come to where the address of a new block hangs on the order (and so do the values of some slots, of which nothing is said). -/
def fill (x : Nat → Value) : List Nat → Array Value → Array Value
  | [], us => us
  | j :: js, us => fill x js (us.setIfInBounds j (x j))
def blank : List Nat → Array Value → Array Value
  | [], us => us
  | j :: js, us => blank js (us.setIfInBounds j undef)
theorem fill_get (x : Nat → Value) : ∀ (js : List Nat) (us : Array Value) (k : Nat), (fill x js us)[k]? = if k ∈ js ∧ k < us.size then some (x k) else us[k]?
  | [], us, k => by simp [fill]
  | j :: js, us, k => by
    rw [fill, fill_get x js]
    simp only [Array.size_setIfInBounds, List.mem_cons, Array.getElem?_setIfInBounds]
    by_cases h1 : k ∈ js
    · by_cases h2 : k < us.size
      · simp [h1, h2]
      · simp only [h1, h2, and_false, or_true, if_false]
        split
        · rename_i h; subst h; simp [h2]
        · rfl
    · by_cases h3 : j = k
      · subst h3; by_cases h2 : j < us.size <;> simp [h1, h2]
      · simp [h1, h3, Ne.symm h3]
theorem blank_get : ∀ (js : List Nat) (us : Array Value) (k : Nat), (blank js us)[k]? = if k ∈ js ∧ k < us.size then some undef else us[k]?
  | [], us, k => by simp [blank]
  | j :: js, us, k => by
    rw [blank, blank_get js]
    simp only [Array.size_setIfInBounds, List.mem_cons, Array.getElem?_setIfInBounds]
    by_cases h1 : k ∈ js
    · by_cases h2 : k < us.size
      · simp [h1, h2]
      · simp only [h1, h2, and_false, or_true, if_false]
        split
        · rename_i h; subst h; simp [h2]
        · rfl
    · by_cases h3 : j = k
      · subst h3; by_cases h2 : j < us.size <;> simp [h1, h2]
      · simp [h1, h3, Ne.symm h3]
theorem blank_size : ∀ (js : List Nat) (us : Array Value), (blank js us).size = us.size
  | [], us => rfl
  | j :: js, us => by rw [blank, blank_size js]; simp
theorem leaf_any {Q : Exit → Act → World → Prop} {ts us : Array Value} {ds : List Deferred} {W : World} (i : Nat) (js : List Nat) (P : Nat → World → Prop) (g : Nat) (hg : ts[i]? = some (.pointer (some ⟨g, 0, none⟩))) (hus : blank (i :: js) ts = us)
    (hfin : ∀ g' (x : Nat → Value) W', P g' W' → Q .normal ⟨(fill x js us).setIfInBounds i (.pointer (some ⟨g', 0, none⟩)), ds⟩ W') (hP : P g W) : Q .normal ⟨ts, ds⟩ W := by
  have h := hfin g (fun j => ts.getD j undef) W hP
  subst hus
  have e : (fill (fun j => ts.getD j undef) js (blank (i :: js) ts)).setIfInBounds i (.pointer (some ⟨g, 0, none⟩)) = ts := by
    obtain ⟨hi, he⟩ := Array.getElem?_eq_some_iff.1 hg
    apply Array.ext_getElem?
    intro k
    have hsz : (fill (fun j => ts.getD j undef) js (blank (i :: js) ts)).size = ts.size := by
      have : ∀ (js : List Nat) (us : Array Value) (x : Nat → Value), (fill x js us).size = us.size := by
        intro js
        induction js with
        | nil => intro us x; rfl
        | cons j js ih => intro us x; rw [fill, ih]; simp
      rw [this, blank_size]
    rw [Array.getElem?_setIfInBounds]
    split
    · rename_i hk; subst hk; rw [if_pos (by rw [hsz]; exact hi), hg]
    · rename_i hk
      rw [fill_get, blank_size]
      split
      · rename_i h2
        simp only [Array.getD_eq_getD_getElem?]
        rw [Array.getElem?_eq_getElem h2.2]; rfl
      · rename_i h2
        rw [blank_get, if_neg]
        rintro ⟨h3, h4⟩
        rcases List.mem_cons.1 h3 with h3 | h3
        · exact hk h3.symm
        · exact h2 ⟨h3, h4⟩
  rw [e] at h
  exact h
/-- What several ways come to, proved once. -/
theorem cutP {P : Program} {Q : Exit → Act → World → Prop} {a : Act} {w : World} {cd : Code} {R : Prop} (h : (Unit → R) → cd.wp P Q a w) (p : R) : cd.wp P Q a w := h fun _ => p

theorem same_drew {w W : World} {X : List Nat} (h : Same w X W) : Same w X W.drew := same_then h (bdrew1 (brefl W))
theorem bdrew1q {B : Nat} {w W : World} (h : Below B w W) : Below B w W.drew := h.drew
/-! A class of worlds: below a block's number all is as it was. -/
structure BelW (B : Nat) (w : World) where
  val : World
  is : Below B w val
theorem bel_start (B : Nat) (w : World) : ∃ p : BelW B w, w.drew = p.val := ⟨⟨w.drew, (Below.refl B w).drew⟩, rfl⟩
theorem bel_of {B : Nat} {w W : World} (h : Below B w W) : ∃ p : BelW B w, W = p.val := ⟨⟨W, h⟩, rfl⟩
instance (B : Nat) (w : World) : Nonempty (BelW B w) := ⟨⟨w, Below.refl _ _⟩⟩
theorem belC {B : Nat} {w : World} (p : BelW B w) (b o : Nat) : p.val.cell? ⟨b, o, none⟩ = if b < B then w.cell? ⟨b, o, none⟩ else opqC p.val b o := by
  split
  · rename_i h; exact p.is.cell (p := ⟨b, o, none⟩) h
  · rfl
end Go.Proofs.Ytaladlaffglkeaa
end
section

/- The contracts of view's calls with their numbers as the text spells them; make; small lemmas. Conditions: as in Nums and Own. -/
namespace Go.Proofs.Ytaladlaffglkeaa
open Go.RowKit

/-- 'make' of so many elements. -/
theorem wpMake {P : Program} (w : World) {ops : Array Oper} {rest : List Oper} {o : Oper} {a : Act} {Q : Exit → Act → World → Prop}
    (hg : o.guard = none) (l c : Operand) (t : TypeId) (hop : o.op = Op.makeSlice t l c)
    (base : Nat) (e : TypeId) (z : Value) (size bytes : Nat) (h1 : P.underlying t = some (.slice e)) (hi : (P.info? e).map (fun i => (i.zero, i.size, i.bytes)) = some (some z, size, bytes))
    (n : Nat) (hl : a.eval l = .int .i64 (n : Int)) (hc : a.eval c = .int .i64 (n : Int)) (b2 : bytes * n ≤ 281474976710656) (b3 : n ≤ maxLen) (b4 : base ≤ w.heap.size)
    (hK : ∀ w', w'.ownsRow base e size (.slice (some ⟨w.heap.size, 0, none⟩) n n) n (madeCells z.cells (n * size)).toList → Below w.heap.size w w' → wpList P ops Q rest (a.put o.dst (.slice (some ⟨w.heap.size, 0, none⟩) n n)) w') :
    wpList P ops Q (o :: rest) a w := by
  obtain ⟨i, hi', hz, hz1, hz2⟩ := info_parts hi
  subst hz2
  exact wpList_make_full w hg l c t hop base e i z size h1 hi' hz hz1 .i64 .i64 _ _ n hl hc rfl rfl b2 b3 b4 fun w' g1 g2 => hK w' g1 ((Below.refl _ w).grown g2 (Nat.le_refl _) (fun k hk => by cases hk))
/-- The contracts with their numbers as the text spells them. -/
theorem u32_z (a : Option Addr) (n c k : Nat) (z : Int) (hz : z = (k : Nat)) (bs : List UInt8) (w : World) (h : Has w a (bytesV bs)) (hl : bs.length = n) (hk : k + 4 ≤ n) (hn : n ≤ c) (hc : c ≤ maxLen) :
    Calls Try.prog 88 #[.agg #[.slice a n c], .int .i64 z] w fun e w' => e = .returned (.int .i64 (num bs k 4 : Nat)) ∧ Below w.heap.size w w' := by
  subst hz; exact u32_ok a n c k bs w h hl hk hn hc
theorem u16_z (a : Option Addr) (n c k : Nat) (z : Int) (hz : z = (k : Nat)) (bs : List UInt8) (w : World) (h : Has w a (bytesV bs)) (hl : bs.length = n) (hk : k + 2 ≤ n) (hn : n ≤ c) (hc : c ≤ maxLen) :
    Calls Try.prog 95 #[.agg #[.slice a n c], .int .i64 z] w fun e w' => e = .returned (.int .i64 (num bs k 2 : Nat)) ∧ Below w.heap.size w w' := by
  subst hz; exact u16_ok a n c k bs w h hl hk hn hc
theorem cut_z (a : Option Addr) (n c k m : Nat) (y z : Int) (hy : y = (k : Nat)) (hz : z = (m : Nat)) (w : World) (hk : k + m ≤ n) (hn : n ≤ c) (hc : c ≤ maxLen) :
    Calls Try.prog 134 #[.agg #[.slice a n c], .int .i64 y, .int .i64 z] w fun e w' => e = .returned (.agg #[.slice (adv a c k) m (c - k)]) ∧ Below w.heap.size w w' := by
  subst hy; subst hz; exact cut_ok a n c k m w hk hn hc
theorem owns_eq {w : World} {base e size n : Nat} {v : Value} {xs ys : List Value} (h : w.ownsRow base e size v n xs) (he : xs = ys) : w.ownsRow base e size v n ys := he ▸ h
theorem own_cell {w : World} {base e size n g cap : Nat} {xs : List Value} (h : w.ownsRow base e size (.slice (some ⟨g, 0, none⟩) n cap) n xs) {j : Nat} (hj : j < n * size) : ∃ x, w.cell? ⟨g, j, none⟩ = some x := by
  have h1 := h.cellAt j hj
  rw [List.getElem?_eq_getElem (by rw [h.1]; exact hj)] at h1
  exact ⟨_, h1⟩
theorem cell_other {w : World} {p q : Addr} (v : Value) (h : q.block ≠ p.block) : (w.setCell p v).cell? q = w.cell? q := World.cell?_of_block (Below.heap_setCell _ _ _ _ h)
theorem rows_z (a : Option Addr) (n c k m s p : Nat) (x y z : Int) (hx : x = (k : Nat)) (hy : y = (m : Nat)) (hz : z = (s : Nat)) (w : World) (hp : m * s = p) (hk : k ≤ n) (hs : s = 0 ∨ m ≤ (n - k) / s) (hm : m ≤ 9223372036854775807) (hs' : s ≤ 9223372036854775807) (hn : n ≤ c) (hc : c ≤ maxLen) :
    Calls Try.prog 142 #[.agg #[.slice a n c], .int .i64 x, .int .i64 y, .int .i64 z] w fun e w' => e = .returned (.agg #[.slice (adv a c k) p (c - k)]) ∧ Below w.heap.size w w' := by
  subst hx; subst hy; subst hz; exact rows_ok a n c k m s p w hp hk hs hm hs' hn hc
theorem i16_z (a : Option Addr) (n c k : Nat) (z : Int) (hz : z = (k : Nat)) (bs : List UInt8) (w : World) (h : Has w a (bytesV bs)) (hl : bs.length = n) (hk : k + 2 ≤ n) (hn : n ≤ c) (hc : c ≤ maxLen) :
    Calls Try.prog 93 #[.agg #[.slice a n c], .int .i64 z] w fun e w' => e = .returned (.int .i64 (s16 (num bs k 2))) ∧ Below w.heap.size w w' := by
  subst hz; exact i16_ok a n c k bs w h hl hk hn hc
theorem num_take (bs : List UInt8) (m j : Nat) (h : j + 2 ≤ m) : num (bs.take m) j 2 = num bs j 2 := by
  have e : ∀ i, i < m → (bs.take m).getD i 0 = bs.getD i 0 := fun i hi => by
    simp only [List.getD_eq_getElem?_getD, List.getElem?_take]
    rw [if_pos hi]
  rw [num2, num2, e j (by omega), e (j + 1) (by omega)]
theorem num_drop (bs : List UInt8) (m j : Nat) : num (bs.drop m) j 2 = num bs (m + j) 2 := by
  rw [num2, num2]
  simp only [List.getD_eq_getElem?_getD, List.getElem?_drop, Nat.add_assoc]
theorem has_alloc (w : World) (cs : Array Value) (t : TypeId) : Has (w.alloc (.cells cs t)) (some ⟨w.heap.size, 0, none⟩) cs.toList := by
  intro j u hu
  refine ⟨_, rfl, ?_⟩
  have e : (⟨w.heap.size, 0, none⟩ : Addr).add j = ⟨w.heap.size, j, none⟩ := by simp only [Addr.add]; split <;> simp_all
  rw [e, allocC, if_pos rfl]
  simpa using hu
end Go.Proofs.Ytaladlaffglkeaa
end
section

/- Contracts of view.Try: true where the function returns, false where it panics by what Fail throws; of view.Of. No condition. -/
namespace Go.Proofs.Ytaladlaffglkeaa
open Go.RowKit

theorem assert_thrown (w : World) : (Instr.typeAssert (.iface 183 (.agg #[])) 20 183 true).run Try.prog w = .ok (.tuple #[.agg #[], .bool true]) w := by kernel_rfl
theorem assert_nil (w : World) : (Instr.typeAssert .nilIface 20 183 true).run Try.prog w = .ok (.tuple #[.agg #[], .bool false]) w := by kernel_rfl

set_option maxHeartbeats 400000 in
theorem catch_thrown (older : List PanicEntry) (w : World) :
    CallsD Try.prog 85 #[] (.panicking ({ v := thrownV, recovered := false } :: older)) w fun e u' w' =>
      e = .returned (.tuple #[]) ∧ u' = .panicking ({ v := thrownV, recovered := true } :: older) ∧ w' = w := by
  refine callsD_of_wpS Try.func85 rfl fun c₀ cs hu => ?_
  apply wpS_seq
  apply wpS_region
  simp [wpOpsS, go_sem, recoverD, hu, Try.ntmps85, Exit.thenS]
  refine wpS_of_wp ?_
  unfold thrownV
  clear hu
  have hr : (Array.replicate 9 undef).setIfInBounds 2 (Value.iface 183 (.agg #[])) = #[undef, undef, .iface 183 (.agg #[]), undef, undef, undef, undef, undef, undef] := rfl
  rw [hr]
  clear hr
  have hT := assert_thrown
  go_wp2
  simp [bodyPostS, results, Try.results85]

set_option maxHeartbeats 400000 in
theorem catch_idle (w : World) :
    CallsD Try.prog 85 #[] .returning w fun e u' w' => e = .returned (.tuple #[]) ∧ u' = .returning ∧ w' = w := by
  refine callsD_of_wpS Try.func85 rfl fun c₀ cs hu => ?_
  apply wpS_seq
  apply wpS_region
  simp [wpOpsS, go_sem, recoverD, hu, Try.ntmps85, Exit.thenS]
  refine wpS_of_wp ?_
  have hr : (Array.replicate 9 undef).setIfInBounds 2 Value.nilIface = #[undef, undef, .nilIface, undef, undef, undef, undef, undef, undef] := rfl
  rw [hr]
  clear hr
  obtain ⟨_, _, _, _, _, _, _⟩ := c₀
  simp only at hu
  subst hu
  have hT := assert_nil
  go_wp2
  simp [bodyPostS, results, Try.results85]


theorem func_nil (fn : Fn) (first cap : Array Value) (w : World) : (binOp .eql 1 (.func fn first cap) .nilFunc).run Try.prog w = .ok (.bool false) w := by kernel_rfl
set_option maxHeartbeats 400000 in
/-- Try of a function that returns, or throws. -/
theorem try_any (G : FuncId) (cap : Array Value) (w : World) (R : Bool → World → Prop)
    (hinv : ∀ w, (callFunc G cap).run Try.prog w = .ok (.enter G cap) w)
    (h : Calls Try.prog G cap w fun e w' => (e = .returned (.tuple #[]) ∧ R true w') ∨ (e = .panicked thrown ∧ R false w')) :
    Calls Try.prog 36 #[.func (.func G) #[] cap] w fun e w' => ∃ ok, e = .returned (.bool ok) ∧ R ok w' := by
  go_enter_defers Try.func36, Try.ntmps36
  have H := Lib.hid h
  have hN := func_nil
  clear h
  go_wp2_with fail
  refine H.out.mono ?_
  clear H
  rintro e w' (⟨rfl, hR⟩ | ⟨rfl, hR⟩)
  · have HR := Lib.hid hR
    clear hR
    go_wp2
    refine leaves_cons (f := 85) (args := #[]) (by simp) (by simp [go_sem]) ?_
    refine (catch_idle _).mono ?_
    rintro e u' w'' ⟨rfl, rfl, rfl⟩
    simp [Leaves, settle, results, Try.results36, go_sem, HR.out]
  · refine leaves_cons (f := 85) (args := #[]) (by simp) (by simp [go_sem]) ?_
    refine (catch_thrown [] _).mono ?_
    rintro e u' w'' ⟨rfl, rfl, rfl⟩
    simp [Leaves, settle, results, Try.results36, go_sem, hR]
end Go.Proofs.Ytaladlaffglkeaa
end
section

/- The frame of every law's proof: where the Go text returns true and leaves all old blocks, the law's row holds. No condition beside the row's. -/
namespace Go.Proofs.Ytaladlaffglkeaa
open Go.ChangeShapes Go.WideShapes Go.ChangeAt Go.RowKit
open Go.ChangeMaps (open_string shut_string)

theorem ownKnob_none : ownKnob Try.prog.godebug = none := by kernel_rfl
theorem laid_out : laidOutB Try.prog = true := by kernel_rfl

section
variable {H : Type} {enc : TypeId × Value → H}
theorem trod_length {P : Program} {w : World} {b : Nat} {sp : Nat → Bool} {hd : Bool} : ∀ {ts : List TypeId} {vs : List Value} {ds : List (DataW H)} {ps : List MemPlace}, DataW.TrodAll enc P w b sp hd ts vs ds ps → ds.length = ts.length
  | [], vs, ds, ps, h => by obtain ⟨_, rfl, _⟩ := trodAll_nil h; rfl
  | t :: ts, vs, ds, ps, h => by
    obtain ⟨v, vs', d, ds', p, q, rfl, rfl, rfl, _, h'⟩ := trodAll_cons h
    simp [trod_length h']
theorem trod_later {W W' : World} (hb : Below W.heap.size W W') : ∀ {ts : List TypeId} {vs : List Value} {ds : List (DataW H)} {ps : List MemPlace}, (∀ t ∈ ts, Try.prog.readableRec t = true ∧ t < Try.prog.types.size) →
    DataW.TrodAll enc Try.prog W 0 (fun _ => true) true ts vs ds ps → DataW.TrodAll enc Try.prog W' 0 (fun b => decide (b < W.heap.size)) true ts vs ds ps
  | [], vs, ds, ps, _, h => by obtain ⟨rfl, rfl, rfl⟩ := trodAll_nil h; exact trodAll_mk0
  | t :: ts, vs, ds, ps, hr, h => by
    obtain ⟨v, vs', d, ds', p, q, rfl, rfl, rfl, h0, h'⟩ := trodAll_cons h
    have k0 := h0
    have lt0 : ∀ x ∈ p, x.block < W.heap.size := by obtain ⟨m, hm⟩ := k0; exact DataW.trod_lt m _ _ _ hm
    exact trodAll_cons_mk (Below.trod laid_out (hr t (by simp)).1 (hr t (by simp)).2 k0 hb lt0) (trod_later hb (fun t ht => hr t (by simp [ht])) h')

/-- What a law's walk must show: of all arguments that are read. -/
def Walks (H : Type) (enc : TypeId × Value → H) (F : FuncId) (ts : List TypeId) : Prop :=
  ∀ (W : World) (base : Nat) (args : Array Value) (ds : List (DataW H)) (p : List MemPlace),
    (∀ (j : Nat) t v, ts[j]? = some t → args[j]? = some v → Value.okWide Try.prog W .any base t v) →
    DataW.TrodAll enc Try.prog W 0 (fun _ => true) true ts args.toList ds p →
    (DataW.weightsEach Try.prog ts ds).all (· ≤ reachBytes) = true →
    Calls Try.prog F args W fun e w' => e = .returned (.bool true) ∧ Below W.heap.size W w'

set_option maxRecDepth 100000 in
theorem lift_law {os : Os} {F : FuncId} {fn : Func} {s : ChangeSpec} {conds : List PathCond} (started : os.Started) (noInit : Try.checked.prog.inits.idxOf? F = none) (hfn : Try.checked.prog.funcs[F]? = some fn)
    (witness : ∃ (w : World) (tape : Tape) (i : Input), w.os = os ∧ (w.forCall tape i).Shaped Try.checked.prog ∧ i.vars = [] ∧ Input.okWide Try.checked.prog (w.forCall tape i) .any w.heap.size F i ∧
      s.pre6 enc Try.checked.prog fn conds false (w.forCall tape i).memory i.args ∧ ({} : Assume).holds Try.checked.prog (lone (Frame.enter Try.checked.prog F i.args .normal) [] (w.forCall tape i)))
    (hres : fn.resultTypes = #[4]) (hvars : s.vars = []) (hspec : ∀ ds : List (DataW H), ds.length = fn.params.size → s.fn H (ds ++ []) = { results := [.lit (.bool true)], args := ds })
    (hrd : ∀ t ∈ fn.params.toList, Try.prog.readableRec t = true ∧ t < Try.prog.types.size) (walk : Walks H enc F fn.params.toList) :
    ReturnsInHanded {} Try.checked os F .any (s.pre6 enc Try.checked.prog fn conds false) (s.post enc Try.checked.prog fn false true false false) := by
  refine returnsInHanded_of_change_sized (C := Try.checked) ownKnob_none started noInit hfn witness ?_
  intro W base args ds gs before hval hW hcnd hsz _
  have hW' := hW
  obtain ⟨p, q, hA, hV, rfl, hfz, hnd⟩ := hW
  rw [hvars] at hV
  obtain ⟨rfl, rfl⟩ := trodVars_none hV
  have hv : s.plain.varTypes Try.checked.prog = [] := by
    simp [ChangeSpec.plain, DataSpec.varTypes, hvars]
  rw [hv, List.append_nil, List.append_nil] at hsz
  have hlen : ds.length = fn.params.size := by simpa using trod_length hA
  have hval' : ∀ (j : Nat) t v, fn.params.toList[j]? = some t → args[j]? = some v → Value.okWide Try.prog W .any base t v := fun j t v ht hv => hval j t v (by rw [Array.getElem?_toList] at ht; exact ht) hv
  have hA' : DataW.TrodAll enc Try.prog W 0 (fun _ => true) true fn.params.toList args.toList ds p := hA
  have hsz' : (DataW.weightsEach Try.prog fn.params.toList ds).all (· ≤ reachBytes) = true := hsz
  refine (walk W base args ds p hval' hA' hsz').mono fun e W' ⟨he, bel⟩ => ?_
  subst he
  refine ⟨_, rfl, ds, [], _, [], p, [], hW', ?_, ?_, ?_, bel.frame _, fun h => by cases h⟩
  · rw [hspec ds hlen, hres]
    exact trodAll_mk1 (shut_bool Try.underlying4 _)
  · rw [hspec ds hlen]
    exact trod_later bel hrd hA
  · rw [hspec ds hlen, hvars]
    rfl

/-- What an argument that is a number is. -/
theorem open_int {P : Program} {W : World} {base : Nat} {t : TypeId} {k : IntKind} {v : Value} {d : DataW H} {p : List MemPlace} (ht : P.underlying t = some (.int k))
    (hv : Value.okWide P W .any base t v) (h : DataW.Trod enc P W 0 (fun _ => true) true t v d p) : ∃ n : Int, v = .int k n ∧ (Lit.int k n).wf = true := by
  obtain ⟨n, rfl⟩ := okWide_int ht hv
  obtain ⟨fuel, hf⟩ := h
  obtain ⟨z, hz, _, hw⟩ := DataW.trod_int ht hf
  simp [Value.cells] at hz
  subst hz
  exact ⟨_, rfl, hw⟩
end
theorem wf_u8 {n : Int} (h : (Lit.int .u8 n).wf = true) : ∃ k : Nat, n = (k : Nat) ∧ k ≤ 255 := by
  simp [Lit.wf, IntKind.min, IntKind.max, IntKind.signed, IntKind.bits] at h
  exact ⟨n.toNat, by omega, by omega⟩
end Go.Proofs.Ytaladlaffglkeaa
end
section

/- Contracts of the reference of layer 1: In, U, S16, S32, Rows. Conditions: sizes as the law hands them in. -/
namespace Go.Proofs.Ytaladlaffglkeaa
open Go.RowKit

end Go.Proofs.Ytaladlaffglkeaa
end
section

/- Contracts of the law's 'cut': a piece of bytes, cut three ways, or that it was thrown. Conditions: the slice's, and that the kind is one of three. -/
namespace Go.Proofs.Ytaladlaffglkeaa
open Go.RowKit

end Go.Proofs.Ytaladlaffglkeaa
end
section

/- Contract of the reference's Rows. Conditions: sizes as the law hands them in. -/
namespace Go.Proofs.Ytaladlaffglkeaa
open Go.RowKit

end Go.Proofs.Ytaladlaffglkeaa
end
section

/- Contracts of package sfnt's small functions: lack, checksum, put32, put16, header. Conditions: sizes. Contracts of package sfnt's put32 and put16: numbers behind a slice of the call's own. Conditions: sizes; the numbers' own block. -/
namespace Go.Proofs.Ytaladlaffglkeaa
open Go.RowKit

/-- A row of bytes of the call's own isn't a block of another kind. -/
theorem own_ne {w : World} {base n : Nat} {v : Value} {xs : List Value} (h : w.ownsRow base 5 1 v n xs) {g : Nat} {cs : Array Value} {t : Nat} {fz : Nat × Nat} (hg : w.heap[g]? = some (.cells cs t fz)) (ht : t ≠ 5) : some g ≠ v.ownBlock := by
  rcases h.2 with ⟨rfl, _⟩ | ⟨g', cap, cur, rfl, _, hh, _⟩
  · simp [Value.ownBlock]
  · simp only [Value.ownBlock, ne_eq, Option.some.injEq]
    rintro rfl
    rw [hg] at hh
    injection hh with hh
    injection hh with _ h2 _
    exact ht h2

theorem bytesV_append (xs ys : List UInt8) : bytesV (xs ++ ys) = bytesV xs ++ bytesV ys := by simp [bytesV]
/-- All blocks that hold no bytes are as they were. -/
def Kept (w w' : World) : Prop := w.heap.size ≤ w'.heap.size ∧ ∀ (g : Nat) (cs : Array Value) (t : Nat) (fz : Nat × Nat), w.heap[g]? = some (.cells cs t fz) → t ≠ 5 → w'.heap[g]? = w.heap[g]?
theorem Kept.refl (w : World) : Kept w w := ⟨Nat.le_refl _, fun _ _ _ _ _ _ => rfl⟩
theorem Kept.trans {a b c : World} (h : Kept a b) (k : Kept b c) : Kept a c := ⟨Nat.le_trans h.1 k.1, fun g cs t fz hg ht => (k.2 g cs t fz ((h.2 g cs t fz hg ht).trans hg) ht).trans (h.2 g cs t fz hg ht)⟩
theorem Kept.below {w w' : World} (h : Below w.heap.size w w') : Kept w w' := ⟨h.size, fun g _ _ _ hg _ => h.block g (Array.getElem?_eq_some_iff.1 hg).1⟩
theorem Kept.grown {w w' : World} {base n : Nat} {v : Value} {xs : List Value} (h : w.ownsRow base 5 1 v n xs) (hg : w.grownBy w' v.ownBlock) : Kept w w' :=
  ⟨hg.size, fun g _ _ _ h1 ht => hg.block g (Array.getElem?_eq_some_iff.1 h1).1 (own_ne h h1 ht)⟩
theorem Kept.cell {w w' : World} (h : Kept w w') {g : Nat} {cs : Array Value} {t : Nat} {fz : Nat × Nat} (hg : w.heap[g]? = some (.cells cs t fz)) (ht : t ≠ 5) (o : Nat) : w'.cell? ⟨g, o, none⟩ = cs[o]? := by
  rw [World.cell?_of_block (w := w) (by exact h.2 g cs t fz hg ht)]
  simp [World.cell?, hg]
end Go.Proofs.Ytaladlaffglkeaa
end
section

/- Contracts of the document's Put: a number's bytes behind others. Conditions: a slice of the call's own; a number from 0 on. A class of worlds: all blocks that hold no bytes are as they were. -/
namespace Go.Proofs.Ytaladlaffglkeaa
open Go.RowKit

def beN : Nat → Nat → List UInt8
  | 0, _ => []
  | s + 1, z => UInt8.ofNat (z / 256 ^ s) :: beN s z
theorem beN_length (s z : Nat) : (beN s z).length = s := by induction s with | zero => rfl | succ s ih => simp [beN, ih]

def PutR (W : World) (base n : Nat) (xs : List UInt8) (z size : Nat) (b i : Value) (wr : World) : Prop :=
  ∃ s P a c, s ≤ size ∧ P ++ beN s z = beN size z ∧ P.length + s = size ∧ i = .int .i64 ((s : Int) - 1) ∧ b = .slice a (n + P.length) c ∧ wr.ownsRow base 5 1 b (n + P.length) (bytesV (xs ++ P)) ∧ n + P.length ≤ c ∧ c ≤ maxLen ∧ (a = none → c = 0) ∧ Below base W wr ∧ Kept W wr
set_option maxRecDepth 100000 in
set_option maxHeartbeats 1600000 in
theorem put_any (base : Nat) (a : Option Addr) (n c z size : Nat) (xs : List UInt8) (w : World) (hown : w.ownsRow base 5 1 (.slice a n c) n (bytesV xs)) (hbase : base ≤ w.heap.size) (hz : z < 9223372036854775808) (hn : n ≤ 1000000000) (hs : size ≤ 8) :
    Calls Try.prog 70 #[.slice a n c, .int .i64 z, .int .i64 size] w fun e w' => ∃ a' c', e = .returned (.slice a' (n + size) c') ∧ w'.ownsRow base 5 1 (.slice a' (n + size) c') (n + size) (bytesV (xs ++ beN size z)) ∧ n + size ≤ c' ∧ c' ≤ maxLen ∧ (a' = none → c' = 0) ∧ Below base w w' ∧ Kept w w' := by
  obtain ⟨_, _, he, k1, k2, k3⟩ := owns_slice hown
  cases he
  have HO := Lib.hid hown
  have HA := Lib.hid k3
  clear hown k3
  go_enter Try.func70, Try.ntmps70
  go_wp2_with fail
  go_loopw [0, 7] (PutR w base n xs z size) (fun _ i _ => ((Go.RowKit.intOf i) + 1).toNat)
  case atStart => exact ⟨size, [], a, c, Nat.le_refl _, rfl, by simp, by first | rfl | go_num, rfl, by simpa using HO.out, by simpa using k1, k2, HA.out, Below.refl _ _, Kept.refl _⟩
  case round =>
    obtain ⟨s, P, a1, c1, hss, hP, hPl, rfl, rfl, hox, k11, k12, k13, hbr, hkp⟩ := hrel
    have HKP := Lib.hid hkp
    have hwz := hkp.1
    clear hkp
    have HX := Lib.hid hox
    have HA1 := Lib.hid k13
    have HP := Lib.hid hP
    have HPL := Lib.hid hPl
    have HB := Lib.hid hbr
    clear hox k13 hP hPl hbr
    rcases s with _ | s
    · go_wp2
      go_ret
      have e0 : P = beN size z := by have := HP.out; simpa [beN] using this
      have hpl : P.length = size := by have := HPL.out; omega
      rw [hpl] at HX k11
      exact ⟨a1, c1, by rw [hpl]; rfl, by rw [← e0]; exact HX.out, k11, k12, HA1.out, HB.out, HKP.out⟩
    · have e1 : (((s + 1 : Nat) : Int) - 1) = (s : Int) := by omega
      rw [e1]
      go_wp2_with fail
      go_loopw [8, 9] (fun k j W => ∃ m : Nat, m ≤ s ∧ j = .int .i64 (m : Nat) ∧ k = .int .i64 ((z / 256 ^ m : Nat) : Int) ∧ W = wr) (fun _ j _ => s - (Go.RowKit.intOf j).toNat)
      case atStart => exact ⟨0, Nat.zero_le _, rfl, by simp, by first | rfl | trivial⟩
      case round =>
        obtain ⟨m, hm, rfl, rfl, rfl⟩ := hrel
        have hle : z / 256 ^ m ≤ z := Nat.div_le_self _ _
        by_cases hlt : m < s
        · have e2 : z / 256 ^ (m + 1) = z / 256 ^ m / 256 := by rw [Nat.pow_succ, Nat.div_div_eq_div_mul]
          have E2 := Lib.hid e2
          clear e2
          generalize z / 256 ^ m = q at *
          go_wp2
          go_roundw
          case rel => exact ⟨m + 1, by omega, by go_num, by rw [E2.out]; go_num, by first | rfl | trivial⟩
          case measure => first | (simp [Go.RowKit.intOf]; done) | (simp [Go.RowKit.intOf]; omega)
        · obtain rfl : m = s := by omega
          have e3 : bytesV [UInt8.ofNat (z / 256 ^ m)] = [.int .u8 ((z / 256 ^ m : Nat) % 256 : Int)] := by simp [bytesV, UInt8.toNat_ofNat']
          have E3 := Lib.hid e3
          have hbe : beN (m + 1) z = UInt8.ofNat (z / 256 ^ m) :: beN m z := rfl
          have HBE := Lib.hid hbe
          clear e3 hbe
          generalize z / 256 ^ m = q at *
          have hpm : P.length + (m + 1) = size := HPL.out
          go_wp2_with (at_builtin; refine wpApp rfl _ _ 22 rfl base 5 (.int .u8 0) 1 1 Try.underlying22 u8_info rfl (by decide) _ (n + P.length) (bytesV (xs ++ P)) rfl (owns_below HX.out (balloc (brefl wr) _) (Nat.le_refl _)) (some ⟨wr.heap.size, 0, none⟩) 1 1 (bytesV [UInt8.ofNat q]) rfl rfl (by rw [E3.out]; exact has_alloc _ _ _) (fun h => by cases h) (bytesV_one _) (by unfold maxLen; omega) (by omega) (by simp; omega) ?_; intro a6 c6 w6 hown6 k61 k62 k63 hb6 hg6; have HO6 := Lib.hid hown6; have HA6 := Lib.hid k63; have HB6 := Lib.hid hb6; have HG6 := Lib.hid hg6; clear hown6 k63 hb6 hg6)
          go_roundw
          case rel => exact ⟨m, P ++ [UInt8.ofNat q], a6, c6, by omega, by have := HP.out; rw [HBE.out] at this; simpa using this, by simp; omega, by first | rfl | go_num, by first | (simp; done) | (simp; rfl), by rw [← List.append_assoc, bytesV_append (xs ++ P), List.length_append, ← Nat.add_assoc]; exact HO6.out, by simp; omega, k62, HA6.out, HB.out.trans (((balloc (brefl wr) _).mono (by omega)).trans HB6.out), HKP.out.trans ((Kept.below (balloc (brefl wr) _)).trans (Kept.grown (owns_below HX.out (balloc (brefl wr) _) (Nat.le_refl _)) HG6.out))⟩
          case measure => first | (simp [Go.RowKit.intOf]; done) | (simp [Go.RowKit.intOf]; omega)

structure KeptW (W : World) where
  val : World
  is : Kept W val
instance (W : World) : Nonempty (KeptW W) := ⟨⟨W, Kept.refl W⟩⟩
theorem kept_start (W : World) : ∃ p : KeptW W, W.drew = p.val := ⟨⟨W.drew, Kept.below (bdrew1 (brefl W))⟩, rfl⟩
theorem kept_of {W W' : World} (h : Kept W W') : ∃ p : KeptW W, W' = p.val := ⟨⟨W', h⟩, rfl⟩
end Go.Proofs.Ytaladlaffglkeaa
end
