
/- The contracts of view's calls with their numbers as the text spells them; make; small lemmas. Conditions: as in Nums and Own. -/
import Derived.Test.YthjnpfhcjacibaaOwn
import Derived.Test.YthjnpfhcjacibaaTree
import Derived.Laws.OwnMore
namespace Go.Proofs.Ythjnpfhcjacibaa
open Go.RowKit

/-- 'make' of so many elements. -/
theorem wpMake {P : Program} (w : World) {ops : Array Oper} {rest : List Oper} {o : Oper} {a : Act} {Q : Exit → Act → World → Prop}
    (hg : o.guard = none) (l c : Operand) (t : TypeId) (hop : o.op = Op.makeSlice t l c)
    (base : Nat) (e : TypeId) (z : Value) (size bytes : Nat) (h1 : P.underlying t = some (.slice e)) (hi : (P.info? e).map (fun i => (i.zero, i.size, i.bytes)) = some (some z, size, bytes))
    (n : Nat) (hl : a.eval l = .int .i64 (n : Int)) (hc : a.eval c = .int .i64 (n : Int)) (b2 : bytes * n ≤ 281474976710656) (b3 : n ≤ maxLen) (b4 : base ≤ w.heap.size)
    (hK : ∀ w', w'.ownsRow base e size (.slice (some ⟨w.heap.size, 0, none⟩) n n) n (madeCells z.cells (n * size)).toList → Below w.heap.size w w' → wpList P ops Q rest (a.put o.dst (.slice (some ⟨w.heap.size, 0, none⟩) n n)) w') :
    wpList P ops Q (o :: rest) a w := by
  obtain ⟨i, hi', hz, hz1, hz2⟩ := info_parts hi
  subst hz2
  exact wpList_make_full w hg l c t hop base e i z size h1 hi' hz hz1 .i64 .i64 _ _ n hl hc rfl rfl b2 b3 b4 fun w' g1 g2 => hK w' g1 ((Below.refl _ w).grown g2 (Nat.le_refl _) (fun k hk => by cases hk))
/-- The contracts with their numbers as the text spells them. -/
theorem u32_z (a : Option Addr) (n c k : Nat) (z : Int) (hz : z = (k : Nat)) (bs : List UInt8) (w : World) (h : Has w a (bytesV bs)) (hl : bs.length = n) (hk : k + 4 ≤ n) (hn : n ≤ c) (hc : c ≤ maxLen) :
    Calls Try.prog 19 #[.agg #[.slice a n c], .int .i64 z] w fun e w' => e = .returned (.int .i64 (num bs k 4 : Nat)) ∧ Below w.heap.size w w' := by
  subst hz; exact u32_ok a n c k bs w h hl hk hn hc
theorem u16_z (a : Option Addr) (n c k : Nat) (z : Int) (hz : z = (k : Nat)) (bs : List UInt8) (w : World) (h : Has w a (bytesV bs)) (hl : bs.length = n) (hk : k + 2 ≤ n) (hn : n ≤ c) (hc : c ≤ maxLen) :
    Calls Try.prog 28 #[.agg #[.slice a n c], .int .i64 z] w fun e w' => e = .returned (.int .i64 (num bs k 2 : Nat)) ∧ Below w.heap.size w w' := by
  subst hz; exact u16_ok a n c k bs w h hl hk hn hc
theorem cut_z (a : Option Addr) (n c k m : Nat) (y z : Int) (hy : y = (k : Nat)) (hz : z = (m : Nat)) (w : World) (hk : k + m ≤ n) (hn : n ≤ c) (hc : c ≤ maxLen) :
    Calls Try.prog 27 #[.agg #[.slice a n c], .int .i64 y, .int .i64 z] w fun e w' => e = .returned (.agg #[.slice (adv a c k) m (c - k)]) ∧ Below w.heap.size w w' := by
  subst hy; subst hz; exact cut_ok a n c k m w hk hn hc
theorem num_sub (bs : List UInt8) (k m j : Nat) (h : j + 4 ≤ m) : num ((bs.drop k).take m) j 4 = num bs (k + j) 4 := by
  have e : ∀ i, i < m → ((bs.drop k).take m).getD i 0 = bs.getD (k + i) 0 := fun i hi => by
    simp only [List.getD_eq_getElem?_getD, List.getElem?_take, List.getElem?_drop]
    rw [if_pos hi]
  rw [num4, num4, e j (by omega), e (j + 1) (by omega), e (j + 2) (by omega), e (j + 3) (by omega)]
  rfl
theorem owns_eq {w : World} {base e size n : Nat} {v : Value} {xs ys : List Value} (h : w.ownsRow base e size v n xs) (he : xs = ys) : w.ownsRow base e size v n ys := he ▸ h
theorem has_wld {w : World} {a : Option Addr} {xs : List Value} (h : Has w a xs) (p : Wld w []) : Has p.val a xs := by
  intro j u hu
  obtain ⟨q, hq, hc⟩ := h j u hu
  refine ⟨q, hq, ?_⟩
  rw [World.cell?_of_block (p.is.block _ (cell_lt hc) (by simp))]
  exact hc
theorem own_cell {w : World} {base e size n g cap : Nat} {xs : List Value} (h : w.ownsRow base e size (.slice (some ⟨g, 0, none⟩) n cap) n xs) {j : Nat} (hj : j < n * size) : ∃ x, w.cell? ⟨g, j, none⟩ = some x := by
  have h1 := h.cellAt j hj
  rw [List.getElem?_eq_getElem (by rw [h.1]; exact hj)] at h1
  exact ⟨_, h1⟩
theorem cell_other {w : World} {p q : Addr} (v : Value) (h : q.block ≠ p.block) : (w.setCell p v).cell? q = w.cell? q := World.cell?_of_block (Below.heap_setCell _ _ _ _ h)
theorem rows_z (a : Option Addr) (n c k m s p : Nat) (x y z : Int) (hx : x = (k : Nat)) (hy : y = (m : Nat)) (hz : z = (s : Nat)) (w : World) (hp : m * s = p) (hk : k ≤ n) (hs : s = 0 ∨ m ≤ (n - k) / s) (hm : m ≤ 9223372036854775807) (hs' : s ≤ 9223372036854775807) (hn : n ≤ c) (hc : c ≤ maxLen) :
    Calls Try.prog 38 #[.agg #[.slice a n c], .int .i64 x, .int .i64 y, .int .i64 z] w fun e w' => e = .returned (.agg #[.slice (adv a c k) p (c - k)]) ∧ Below w.heap.size w w' := by
  subst hx; subst hy; subst hz; exact rows_ok a n c k m s p w hp hk hs hm hs' hn hc
theorem rows_zb (a : Option Addr) (n c k m s : Nat) (x y z : Int) (hx : x = (k : Nat)) (hy : y = (m : Nat)) (hz : z = (s : Nat)) (w : World) (hm : m ≤ 65535) (h0 : 0 < s) (h9 : s ≤ 100) (hbad : ¬ (k ≤ n ∧ m ≤ (n - k) / s)) (hn : n ≤ c) (hc : c ≤ maxLen) :
    Calls Try.prog 38 #[.agg #[.slice a n c], .int .i64 x, .int .i64 y, .int .i64 z] w fun e w' => e = .panicked thrown ∧ Below w.heap.size w w' := by
  subst hx; subst hy; subst hz
  refine rows_bad a n c _ _ _ w (by omega) (by omega) ?_ hn hc
  rintro ⟨_, h1, _, _, h2⟩
  simp only [Int.toNat_natCast] at h2
  exact hbad ⟨by omega, by omega⟩
theorem num_take (bs : List UInt8) (m j : Nat) (h : j + 2 ≤ m) : num (bs.take m) j 2 = num bs j 2 := by
  have e : ∀ i, i < m → (bs.take m).getD i 0 = bs.getD i 0 := fun i hi => by
    simp only [List.getD_eq_getElem?_getD, List.getElem?_take]
    rw [if_pos hi]
  rw [num2, num2, e j (by omega), e (j + 1) (by omega)]
theorem num_drop (bs : List UInt8) (m j : Nat) : num (bs.drop m) j 2 = num bs (m + j) 2 := by
  rw [num2, num2]
  simp only [List.getD_eq_getElem?_getD, List.getElem?_drop, Nat.add_assoc]
theorem has_alloc (w : World) (cs : Array Value) (t : TypeId) : Has (w.alloc (.cells cs t)) (some ⟨w.heap.size, 0, none⟩) cs.toList := by
  intro j u hu
  refine ⟨_, rfl, ?_⟩
  have e : (⟨w.heap.size, 0, none⟩ : Addr).add j = ⟨w.heap.size, j, none⟩ := by simp only [Addr.add]; split <;> simp_all
  rw [e, allocC, if_pos rfl]
  simpa using hu
theorem str_toList (bs : List UInt8) : (str bs).toList = bs := by rw [ByteArray.toList_eq]; rfl
end Go.Proofs.Ythjnpfhcjacibaa
