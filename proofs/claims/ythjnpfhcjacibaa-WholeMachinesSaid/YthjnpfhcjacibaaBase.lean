
/- Small lemmas on worlds, over any program: cells and marks behind a call that leaves all old blocks, and behind a new block. No condition. -/
import Derived.Test.YthjnpfhcjacibaaRows
import Derived.WalkKit
import Derived.WalkSpells
import Derived.WalkLawsBesides
import Derived.Lib.QuietBelow
import Derived.BigQuiet
import Derived.Lib.Hide
import Derived.Laws.BytesArg
import Derived.Laws.AppendOwnNone
namespace Go.Proofs.Ythjnpfhcjacibaa
open Go.RowKit

def opqC (w : World) (b o : Nat) : Option Value := w.cell? ⟨b, o, none⟩
def opqF (w : World) (b o : Nat) : Bool := w.frozen? ⟨b, o, none⟩
theorem bc {W w1 : World} (hb : Below W.heap.size W w1) (b o : Nat) : w1.cell? ⟨b, o, none⟩ = if b < W.heap.size then W.cell? ⟨b, o, none⟩ else opqC w1 b o := by
  split
  · rename_i h; exact hb.cell (p := ⟨b, o, none⟩) h
  · rfl
theorem bf {W w1 : World} (hb : Below W.heap.size W w1) (b o : Nat) : w1.frozen? ⟨b, o, none⟩ = if b < W.heap.size then W.frozen? ⟨b, o, none⟩ else opqF w1 b o := by
  split
  · rename_i h; exact hb.frozen (p := ⟨b, o, none⟩) h
  · rfl
theorem heap_push (w : World) (o : Obj) (b : Nat) : (w.alloc o).heap[b]? = if b = w.heap.size then some o else w.heap[b]? := by
  show (w.heap.push o)[b]? = _
  rw [Array.getElem?_push]
theorem allocC (w : World) (cs : Array Value) (t b o : Nat) : (w.alloc (.cells cs t)).cell? ⟨b, o, none⟩ = if b = w.heap.size then cs[o]? else w.cell? ⟨b, o, none⟩ := by
  unfold World.cell?
  rw [heap_push]
  by_cases h : b = w.heap.size <;> simp [h]
theorem allocF (w : World) (cs : Array Value) (t b o : Nat) : (w.alloc (.cells cs t)).frozen? ⟨b, o, none⟩ = if b = w.heap.size then false else w.frozen? ⟨b, o, none⟩ := by
  unfold World.frozen?
  rw [heap_push]
  by_cases h : b = w.heap.size <;> simp [h]
/-- Two steps: the second leaves what the first leaves. -/
theorem bthen {w W w1 : World} (h : Below w.heap.size w W) (hb : Below W.heap.size W w1) : Below w.heap.size w w1 := h.trans (hb.mono h.size)
theorem brefl (w : World) : Below w.heap.size w w := Below.refl _ _
theorem balloc {w W : World} (h : Below w.heap.size w W) (o : Obj) : Below w.heap.size w (W.alloc o) := h.alloc h.size o
theorem bdrew {w W : World} (h : Below w.heap.size w W) (n : Nat) : Below w.heap.size w (W.drewN n) := ⟨h.os, h.tape, h.output, h.size, h.block⟩
theorem bdrew1 {w W : World} (h : Below w.heap.size w W) : Below w.heap.size w W.drew := h.drew
theorem bset {w W : World} (h : Below w.heap.size w W) {p : Addr} (hp : w.heap.size ≤ p.block) (v : Value) : Below w.heap.size w (W.setCell p v) := h.setCell hp v

/-- The cells from an address on hold these values, one behind the other. -/
def Has (w : World) (a : Option Addr) (xs : List Value) : Prop := ∀ j u, xs[j]? = some u → ∃ p, a = some p ∧ w.cell? (p.add j) = some u
theorem cell_lt {w : World} {p : Addr} {v : Value} (h : w.cell? p = some v) : p.block < w.heap.size := World.block_lt_of_cell? w p h
theorem add_block (p : Addr) (j : Nat) : (p.add j).block = p.block := by unfold Addr.add; split <;> rfl
theorem Has.below {w w' : World} {a : Option Addr} {xs : List Value} (h : Has w a xs) (hb : Below w.heap.size w w') : Has w' a xs := by
  intro j u hu
  obtain ⟨p, hp, hc⟩ := h j u hu
  exact ⟨p, hp, by rw [hb.cell (cell_lt hc)]; exact hc⟩
theorem spot_none {w : World} {p : Addr} {v : Value} (h : w.cell? p = some v) : p.spot = none := by
  unfold World.cell? at h
  split at h
  · split at h
    · cases h
    · rename_i hs; simpa using hs
  · cases h
theorem Has.nil (w : World) (a : Option Addr) : Has w a [] := fun _ _ h => by simp at h
/-- An element's cell, its address written out. -/
theorem Has.get {w : World} {a : Option Addr} {xs : List Value} (h : Has w a xs) (h0 : 0 < xs.length) :
    ∃ b o, a = some ⟨b, o, none⟩ ∧ b < w.heap.size ∧ ∀ j u, xs[j]? = some u → w.cell? ⟨b, o + j, none⟩ = some u := by
  obtain ⟨p, hp, hc⟩ := h 0 _ (List.getElem?_eq_getElem h0)
  have hs := spot_none hc
  have hlt := cell_lt hc
  obtain ⟨b, o, s⟩ := p
  simp [Addr.add] at hs hlt
  subst hs
  refine ⟨b, o, hp, hlt, fun j u hu => ?_⟩
  obtain ⟨q, hq, hd⟩ := h j u hu
  rw [hp] at hq
  cases hq
  unfold Addr.add at hd
  split at hd
  · rename_i hj; subst hj; exact hd
  · exact hd
theorem has_of {w : World} {b o : Nat} {xs : List Value} (h : ∀ j u, xs[j]? = some u → w.cell? ⟨b, o + j, none⟩ = some u) : Has w (some ⟨b, o, none⟩) xs := by
  intro j u hu
  refine ⟨_, rfl, ?_⟩
  have := h j u hu
  unfold Addr.add
  split
  · rename_i hj; subst hj; exact this
  · exact this

/-- Where the cells from a place on begin: Go keeps the address where nothing would be left. -/
def adv (a : Option Addr) (c k : Nat) : Option Addr := if c = k then a else a.map (·.add k)
theorem Has.adv {w : World} {a : Option Addr} {xs : List Value} (h : Has w a xs) (c k : Nat) (hc : xs.length ≤ c) : Has w (adv a c k) (xs.drop k) := by
  intro j u hu
  rw [List.getElem?_drop] at hu
  have hlt : k + j < xs.length := by
    rcases Nat.lt_or_ge (k + j) xs.length with g | g
    · exact g
    · rw [List.getElem?_eq_none g] at hu; cases hu
  obtain ⟨b, o, rfl, _, hcell⟩ := h.get (by omega)
  have hne : ¬ c = k := by omega
  refine ⟨_, by rw [Proofs.Ythjnpfhcjacibaa.adv, if_neg hne]; rfl, ?_⟩
  have hk : ((⟨b, o, none⟩ : Addr).add k).add j = ⟨b, o + (k + j), none⟩ := by
    unfold Addr.add
    by_cases h1 : k = 0 <;> by_cases h2 : j = 0 <;> simp [h1, h2, Nat.add_assoc]
  rw [hk]
  exact hcell _ _ hu
theorem Has.take {w : World} {a : Option Addr} {xs : List Value} (h : Has w a xs) (m : Nat) : Has w a (xs.take m) := by
  intro j u hu
  refine h j u ?_
  rw [List.getElem?_take] at hu
  split at hu
  · exact hu
  · cases hu
theorem has_of_owns {w : World} {base e size n m c : Nat} {a : Option Addr} {xs : List Value} (h : w.ownsRow base e size (.slice a m c) n xs) : Has w a xs := by
  rcases h.2 with ⟨hv, rfl⟩ | ⟨g, cap, cur, hv, _⟩
  · have : xs = [] := List.eq_nil_of_length_eq_zero (by simpa using h.1)
    subst this
    exact Has.nil _ _
  · injection hv with h1 h2 h3
    subst h1
    exact fun j u hu => ⟨_, rfl, h.cells (g := g) rfl j u hu⟩
/-- What is owned from a base on stays owned where the world has turned from a higher base on alone. -/
theorem owns_below {w w' : World} {base e size n B : Nat} {v : Value} {xs : List Value} (h : w.ownsRow base e size v n xs) (hb : Below B w w') (hB : w.heap.size ≤ B) : w'.ownsRow base e size v n xs := by
  refine ⟨h.1, ?_⟩
  rcases h.2 with g | ⟨g, cap, cur, hv, hg, hh, r⟩
  · exact .inl g
  · exact .inr ⟨g, cap, cur, hv, hg, by rw [hb.block g (Nat.lt_of_lt_of_le (Array.getElem?_eq_some_iff.1 hh).1 hB)]; exact hh, r⟩

theorem owns_mono {w : World} {base base' : Nat} {e : TypeId} {size : Nat} {v : Value} {n : Nat} {xs : List Value} (h : w.ownsRow base e size v n xs) (hb : base' ≤ base) : w.ownsRow base' e size v n xs := by
  refine ⟨h.1, ?_⟩
  rcases h.2 with g | ⟨g, cap, cur, hv, hg, r⟩
  · exact .inl g
  · exact .inr ⟨g, cap, cur, hv, Nat.le_trans hb hg, r⟩
/-- Bytes as cells. -/
def bytesV (bs : List UInt8) : List Value := bs.map fun b => .int .u8 b.toNat
theorem bytesV_length (bs : List UInt8) : (bytesV bs).length = bs.length := by simp [bytesV]
theorem bytesV_get (bs : List UInt8) (j : Nat) (h : j < bs.length) : (bytesV bs)[j]? = some (.int .u8 (bs.getD j 0).toNat) := by
  simp [bytesV, List.getElem?_map, List.getElem?_eq_getElem h, List.getD_eq_getElem?_getD]
theorem bytesV_drop (bs : List UInt8) (k : Nat) : (bytesV bs).drop k = bytesV (bs.drop k) := by simp [bytesV]
theorem bytesV_take (bs : List UInt8) (k : Nat) : (bytesV bs).take k = bytesV (bs.take k) := by simp [bytesV]
theorem bytesV_one (bs : List UInt8) : ∀ u ∈ bytesV bs, u.oneCell' = true := by
  intro u hu
  simp only [bytesV, List.mem_map] at hu
  obtain ⟨b, _, rfl⟩ := hu
  rfl
theorem owns_slice {w : World} {base e size n : Nat} {v : Value} {xs : List Value} (h : w.ownsRow base e size v n xs) : ∃ a c, v = .slice a n c ∧ n ≤ c ∧ c ≤ maxLen ∧ (a = none → c = 0) := by
  rcases h.2 with ⟨rfl, rfl⟩ | ⟨g, cap, cur, rfl, _, _, hn, hm, _⟩
  · exact ⟨none, 0, rfl, Nat.le_refl _, Nat.zero_le _, fun _ => rfl⟩
  · exact ⟨_, cap, rfl, hn, hm, fun h => by cases h⟩
/-- 'append' onto a slice of the call's own, whatever is appended: nil, or cells that are read. -/
theorem wpApp {P : Program} {w : World} {ops : Array Oper} {rest : List Oper} {o : Oper} {a : Act} {Q : Exit → Act → World → Prop} (hgd : o.guard = none) (s x : Operand) (t : TypeId)
    (ho : o.op = .call { callee := .builtin .append, args := #[s, x], argTypes := #[t, t] })
    (base : Nat) (e : TypeId) (z : Value) (size bytes : Nat) (ht : P.underlying t = some (.slice e)) (hi : (P.info? e).map (fun i => (i.zero, i.size, i.bytes)) = some (some z, size, bytes)) (hzs : z.cells.size = size) (hsz : 0 < size)
    (v : Value) (n : Nat) (xs : List Value) (hs : a.eval s = v) (hown : w.ownsRow base e size v n xs)
    (A : Option Addr) (m c : Nat) (news : List Value) (hx : a.eval x = .slice A m c) (hl : news.length = m * size) (hnews : Has w A news) (hA : A = none → c = 0) (h1 : ∀ u ∈ news, u.oneCell' = true)
    (h63 : n + m ≤ maxLen) (hbytes : (n + m) * bytes ≤ 140737488355328) (hbase : base ≤ w.heap.size)
    (h' : ∀ a' c' w', w'.ownsRow base e size (.slice a' (n + m) c') (n + m) (xs ++ news) → n + m ≤ c' → c' ≤ maxLen → (a' = none → c' = 0) → Below base w w' → w.grownBy w' v.ownBlock → wpList P ops Q rest (a.put o.dst (.slice a' (n + m) c')) w') : wpList P ops Q (o :: rest) a w := by
  obtain ⟨i, hi, hz, hz1, hz2⟩ := info_parts hi
  have h : ∀ v' w', w'.ownsRow base e size v' (n + m) (xs ++ news) → Below base w w' → w.grownBy w' v.ownBlock → wpList P ops Q rest (a.put o.dst v') w' := by
    intro v' w' g1 g2 g3
    obtain ⟨a', c', rfl, k1, k2, k3⟩ := owns_slice g1
    exact h' a' c' w' g1 k1 k2 k3 g2 g3
  cases A with
  | none =>
    have hn : news = [] := by
      rcases news with _ | ⟨u, us⟩
      · rfl
      · obtain ⟨p, hp, _⟩ := hnews 0 u (by simp)
        cases hp
    subst hn
    have hm : m = 0 := by
      rcases Nat.eq_zero_or_pos m with g | g
      · exact g
      · have := Nat.mul_pos g hsz; simp at hl; omega
    subst hm
    obtain rfl := hA rfl
    refine wpList_append_own_none hgd s x t ho base e i size ht hi v n xs hs hown hx ?_
    exact h v w (by simpa using hown) (Below.refl _ _) (World.grownBy.refl _ _)
  | some p =>
    refine wpList_append_own w hgd s x t ho base e i z size bytes ht hi hz hz1 hz2 hzs hsz v n xs hs hown p m c news hx hl ?_ h1 h63 hbytes hbase ?_
    · intro j u hu
      obtain ⟨q, hq, hc⟩ := hnews j u hu
      cases hq
      exact hc
    · intro v' w' g1 g2 _
      exact h v' w' g1 ((Below.refl base w).grown g2 hbase fun k hk => (hown.lt k hk).1) g2
theorem bytes_back (bs : List UInt8) : bs.map ((fun n : Int => UInt8.ofNat n.toNat) ∘ fun b => (b.toNat : Int)) = bs := by
  induction bs with
  | nil => rfl
  | cons b bs ih => rw [List.map_cons, ih]; simp
/-- 'string(b)' of bytes that are known. -/
def str (bs : List UInt8) : ByteArray := ⟨bs.toArray⟩
theorem str_inj {a b : List UInt8} (h : str a = str b) : a = b := by
  have := congrArg (fun s => s.data.toList) h
  simpa [str] using this
theorem run_str {P : Program} {w : World} {src dst e : TypeId} (hs : P.underlying src = some (.slice e)) (he : P.underlying e = some (.int .u8)) (hd : P.underlying dst = some .string)
    {a : Option Addr} {n c : Nat} {bs : List UInt8} (h : Has w a (bytesV bs)) (hl : bs.length = n) : (convert src dst (.slice a n c)).run P w = .ok (.string (str bs)) w := by
  rcases Nat.eq_zero_or_pos n with h0 | h0
  · subst h0
    obtain rfl : bs = [] := List.eq_nil_of_length_eq_zero hl
    cases a with
    | none => exact run_convert_bytes_nil w src e hs he _ _ dst hd
    | some p =>
      rw [run_convert_bytes_string w src dst e _ 0 c hs he hd, run_bytesToString w _ 0 c [] (by simp [loadCells, loadCellsFrom])]
      rfl
  · obtain ⟨b, o, rfl, _, hg⟩ := h.get (by rw [bytesV_length]; omega)
    rw [run_convert_bytes_arg w src e hs he b o n c (bs.map fun b => (b.toNat : Int)) (by simpa using hl) ?_ dst hd]
    · congr 2
      simp only [strOfNums, str, List.map_map]
      rw [bytes_back]
    · intro i hi
      have := hg i _ (bytesV_get bs i (by omega))
      rw [this]
      simp [List.getD_eq_getElem?_getD, List.getElem?_map, List.getElem?_eq_getElem (show i < bs.length by omega)]
theorem byte_le (b : UInt8) : b.toNat ≤ 255 := by have := b.toNat_lt; omega
end Go.Proofs.Ythjnpfhcjacibaa
