
/- Contracts of package sfnt's small functions: lack, checksum, put32, put16, header. Conditions: sizes. Contracts of package sfnt's put32 and put16: numbers behind a slice of the call's own. Conditions: sizes; the numbers' own block. -/
import Derived.Test.YthjnpfhcjacibaaOwn
import Derived.Test.YthjnpfhcjacibaaZed
namespace Go.Proofs.Ythjnpfhcjacibaa
open Go.RowKit

/-- How many bytes lack to a multiple of four. -/
def lackN (n : Nat) : Nat := (4 - n % 4) % 4

/-- The sum of the first numbers of four bytes, byte by byte. -/
def cks (bs : List UInt8) : Nat → Nat
  | 0 => 0
  | k + 1 => (cks bs k + (bs.getD k 0).toNat * 2 ^ (24 - 8 * (k % 4))) % 4294967296
theorem cks_lt (bs : List UInt8) (k : Nat) : cks bs k < 4294967296 := by
  cases k with
  | zero => simp [cks]
  | succ k => simp only [cks]; omega
def CkRel (bs : List UInt8) (n : Nat) (i z : Value) : Prop := ∃ k : Nat, k ≤ n ∧ i = .int .i64 k ∧ z = .int .u32 (cks bs k : Nat)
theorem byte_at {w : World} {a : Option Addr} {bs : List UInt8} (h : Has w a (bytesV bs)) {k : Nat} (hk : k < bs.length) : ∃ g o, a = some ⟨g, o, none⟩ ∧ g < w.heap.size ∧ w.cell? ⟨g, o + k, none⟩ = some (.int .u8 (bs.getD k 0).toNat) := by
  obtain ⟨g, o, ha, hg, hx⟩ := h.get (by rw [bytesV_length]; omega)
  exact ⟨g, o, ha, hg, hx k _ (bytesV_get _ _ hk)⟩

def be4 (z : Nat) : List UInt8 := [UInt8.ofNat (z / 16777216), UInt8.ofNat (z / 65536), UInt8.ofNat (z / 256), UInt8.ofNat z]
def be2 (z : Nat) : List UInt8 := [UInt8.ofNat (z / 256), UInt8.ofNat z]
/-- A row of bytes of the call's own isn't a block of another kind. -/
theorem own_ne {w : World} {base n : Nat} {v : Value} {xs : List Value} (h : w.ownsRow base 5 1 v n xs) {g : Nat} {cs : Array Value} {t : Nat} {fz : Nat × Nat} (hg : w.heap[g]? = some (.cells cs t fz)) (ht : t ≠ 5) : some g ≠ v.ownBlock := by
  rcases h.2 with ⟨rfl, _⟩ | ⟨g', cap, cur, rfl, _, hh, _⟩
  · simp [Value.ownBlock]
  · simp only [Value.ownBlock, ne_eq, Option.some.injEq]
    rintro rfl
    rw [hg] at hh
    injection hh with hh
    injection hh with _ h2 _
    exact ht h2

theorem be4V (z : Nat) (h : z < 4294967296) : bytesV (be4 z) = [.int .u8 ((z : Int) / 16777216), .int .u8 ((z : Int) / 65536 % 256), .int .u8 ((z : Int) / 256 % 256), .int .u8 ((z : Int) % 256)] := by
  simp only [bytesV, be4, List.map_cons, List.map_nil, UInt8.toNat_ofNat', List.cons.injEq, Value.int.injEq, true_and, and_true]
  refine ⟨?_, ?_, ?_, ?_⟩ <;> omega
theorem be2V (z : Nat) (h : z < 65536) : bytesV (be2 z) = [.int .u8 ((z : Int) / 256), .int .u8 ((z : Int) % 256)] := by
  simp only [bytesV, be2, List.map_cons, List.map_nil, UInt8.toNat_ofNat', List.cons.injEq, Value.int.injEq, true_and, and_true]
  refine ⟨?_, ?_⟩ <;> omega
theorem bytesV_append (xs ys : List UInt8) : bytesV (xs ++ ys) = bytesV xs ++ bytesV ys := by simp [bytesV]
theorem take_flat (ls : List Nat) (f : Nat → List UInt8) (k z : Nat) (h : ls[k]? = some z) : (ls.take (k + 1)).flatMap f = (ls.take k).flatMap f ++ f z := by
  rw [List.take_add_one, h]
  simp
/-- All blocks that hold no bytes are as they were. -/
def Kept (w w' : World) : Prop := w.heap.size ≤ w'.heap.size ∧ ∀ (g : Nat) (cs : Array Value) (t : Nat) (fz : Nat × Nat), w.heap[g]? = some (.cells cs t fz) → t ≠ 5 → w'.heap[g]? = w.heap[g]?
theorem Kept.refl (w : World) : Kept w w := ⟨Nat.le_refl _, fun _ _ _ _ _ _ => rfl⟩
theorem Kept.trans {a b c : World} (h : Kept a b) (k : Kept b c) : Kept a c := ⟨Nat.le_trans h.1 k.1, fun g cs t fz hg ht => (k.2 g cs t fz ((h.2 g cs t fz hg ht).trans hg) ht).trans (h.2 g cs t fz hg ht)⟩
theorem Kept.below {w w' : World} (h : Below w.heap.size w w') : Kept w w' := ⟨h.size, fun g _ _ _ hg _ => h.block g (Array.getElem?_eq_some_iff.1 hg).1⟩
theorem Kept.grown {w w' : World} {base n : Nat} {v : Value} {xs : List Value} (h : w.ownsRow base 5 1 v n xs) (hg : w.grownBy w' v.ownBlock) : Kept w w' :=
  ⟨hg.size, fun g _ _ _ h1 ht => hg.block g (Array.getElem?_eq_some_iff.1 h1).1 (own_ne h h1 ht)⟩
theorem Kept.cell {w w' : World} (h : Kept w w') {g : Nat} {cs : Array Value} {t : Nat} {fz : Nat × Nat} (hg : w.heap[g]? = some (.cells cs t fz)) (ht : t ≠ 5) (o : Nat) : w'.cell? ⟨g, o, none⟩ = cs[o]? := by
  rw [World.cell?_of_block (w := w) (by exact h.2 g cs t fz hg ht)]
  simp [World.cell?, hg]
def PutRel (w : World) (base n : Nat) (xs : List UInt8) (ls : List Nat) (gl : Nat) (f : Nat → List UInt8) (sz : Nat) (v i : Value) (wr : World) : Prop :=
  ∃ k a c, k ≤ ls.length ∧ i = .int .i64 (k : Nat) ∧ v = .slice a (n + sz * k) c ∧ wr.ownsRow base 5 1 v (n + sz * k) (bytesV (xs ++ (ls.take k).flatMap f)) ∧ (a = none → c = 0) ∧ c ≤ maxLen ∧ n + sz * k ≤ c ∧ Below base w wr ∧ Kept w wr

end Go.Proofs.Ythjnpfhcjacibaa
