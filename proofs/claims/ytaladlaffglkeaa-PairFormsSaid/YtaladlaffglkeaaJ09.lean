/- Joined from: MRefG MSt MFill MGet MRefR MSpeak MPlan MRefT MRefC. -/
import Derived.Test.YtaladlaffglkeaaJ08
import Derived.Test.YtaladlaffglkeaaJ01
import Derived.Test.YtaladlaffglkeaaJ04
import Derived.Test.YtaladlaffglkeaaJ06
import Derived.Test.YtaladlaffglkeaaJ02
import Derived.Lib.AppendZeros
import Derived.ChangeSame
section

/- The document's answer of a lookup's parts, as a function, and that it is the table's. Conditions: as each says. -/
namespace Go.Proofs.Ytaladlaffglkeaa
open Go.RowKit Go.Lib

def inR (id : Int) (r : RP) : Bool := decide ((r.first : Int) ≤ id) && decide (id ≤ (r.last : Int))
/-- The first part that holds a glyph tells its number. -/
def refG (bs : List UInt8) (rs : List RP) (id : Int) : Nat × Bool := match rs.find? (inR id) with
  | some r => (num bs (r.at_ + (if r.own = true then r.size else 0) * (id - r.first).toNat) r.size, true)
  | none => (0, false)
theorem numsA_get (bs : List UInt8) (S k i : Nat) (h : i < k) : (numsA bs S k).getD i 0 = num bs (i * S) S := by
  simp [numsA, List.getD_eq_getElem?_getD, h]
theorem refG_tab (bs : List UInt8) (rs : List RP) (h : okR bs rs) (hr : ∀ r ∈ rs, r.last ≤ 70000 ∧ (r.size = 1 ∨ r.size = 2 ∨ r.size = 4)) (id : Int) : ∀ k, k ≤ rs.length → getL (tabR bs (rs.take k)).1 (tabR bs (rs.take k)).2 id = refG bs (rs.take k) id ∧ ((tabR bs (rs.take k)).1.find? (inP id) = none ↔ (rs.take k).find? (inR id) = none)
  | 0, _ => by rw [List.take_zero]; exact ⟨rfl, by simp [tabR]⟩
  | k + 1, hk => by
    have hx := List.getElem?_eq_getElem (show k < rs.length by omega)
    obtain ⟨ih1, ih2⟩ := refG_tab bs rs h hr id k (by omega)
    have hinv := invR_take bs rs h hr k (by omega)
    rw [tabR_take_succ hx, List.take_add_one, hx]
    generalize tabR bs (rs.take k) = s at *
    generalize rs.take k = l at *
    generalize rs[k] = r at *
    obtain ⟨ps, ns⟩ := s
    simp only [stepR, Option.toList]
    have hpr : inP id ⟨r.first, r.last, ns.length, if r.own = true then 1 else 0⟩ = inR id r := rfl
    cases hf : ps.find? (inP id) with
    | some p =>
      have hl : l.find? (inR id) ≠ none := fun hn => by
        have := ih2.2 hn
        simp only at this
        rw [hf] at this
        cases this
      obtain ⟨q, hq⟩ := Option.ne_none_iff_exists'.1 hl
      have hok := hinv.ok p (List.mem_of_find?_eq_some hf)
      have hin := List.find?_some hf
      simp only [inP, Bool.and_eq_true, decide_eq_true_eq] at hin
      have hlt : p.at_ + p.step * (id - p.first).toNat < ns.length := by
        obtain ⟨h1, h2, _⟩ := hok
        simp only at h2
        rcases h1 with h1 | h1 <;> rw [h1] at h2 ⊢ <;> omega
      constructor
      · unfold getL refG at ih1 ⊢
        simp only [List.find?_append, hf, hq, Option.some_or] at ih1 ⊢
        rw [← ih1, List.getD_eq_getElem?_getD, List.getElem?_append_left hlt, List.getD_eq_getElem?_getD]
      · simp [List.find?_append, hf, hq]
    | none =>
      have hl := ih2.1 hf
      constructor
      · unfold getL refG
        simp only [List.find?_append, hf, hl, Option.none_or, List.find?_cons, hpr]
        cases hi : inR id r with
        | false => rfl
        | true =>
          simp only [inR, Bool.and_eq_true, decide_eq_true_eq] at hi
          simp only
          congr 1
          cases ho : r.own with
          | true =>
            have hlt : (id - (r.first : Int)).toNat < r.last - r.first + 1 := by omega
            simp only [numsR, ho, if_true, Nat.one_mul]
            rw [List.getD_eq_getElem?_getD, List.getElem?_append_right (by omega), Nat.add_sub_cancel_left, ← List.getD_eq_getElem?_getD, numsA_get _ _ _ _ hlt, num_dropS, Nat.mul_comm]
          | false =>
            simp only [numsR, ho, Bool.false_eq_true, if_false, Nat.zero_mul, Nat.add_zero]
            rw [List.getD_eq_getElem?_getD, List.getElem?_append_right (by omega), Nat.sub_self]
            rfl
      · simp only [List.find?_append, hf, hl, Option.none_or, List.find?_cons, hpr]
        cases inR id r <;> simp
end Go.Proofs.Ytaladlaffglkeaa
end
section

/- state.entry: an entry of a view, its words by how many there are. Conditions: as many bytes as the slice says, as many as an entry has. What a machine is, by its bytes: its classes, where its states and entries stand, how many there are. Conditions: as the lemmas say. A machine in memory while it is filled: its states' rows, its entries. Conditions: as the lemmas say. -/
namespace Go.Proofs.Ytaladlaffglkeaa
open Go.RowKit Go.Lib

end Go.Proofs.Ytaladlaffglkeaa
end
section

/- A class of worlds: all blocks that aren't a call's own are as they were, by their numbers and types. No condition of its own. The contract of (*state.Machine).addEntries. Conditions: as many bytes as the slice says; a machine that is being filled. The contract of (*state.Machine).addStates. Conditions: as many bytes as the slice says; a machine that is being filled. The contract of (*state.Machine).fill. Conditions: as many bytes as the slices say; a machine without states. -/
namespace Go.Proofs.Ytaladlaffglkeaa
open Go.RowKit

open Go.RowKit Go.Lib

end Go.Proofs.Ytaladlaffglkeaa
end
section

/- The contract of state.Take. Conditions: as many bytes as the slice says; glyphs from 1 to 65535, words from 0 to 2. The contract of state.Read. Conditions: as many bytes as the slice says. The contracts of a machine's calls: Classes, States, Entries, Step, Class. Conditions: a machine in memory, as its bytes tell it. -/
namespace Go.Proofs.Ytaladlaffglkeaa
open Go.RowKit Go.Lib

end Go.Proofs.Ytaladlaffglkeaa
end
section

/- The contract of the reference's needs of layer 7. Conditions: as many bytes as the slice says, no more than 4000; all numbers there. The contract of the reference's Read of layer 7. Conditions: as many bytes as the slice says, no more than 4000; glyphs from 1 to 65535, words from 0 to 2. -/
namespace Go.Proofs.Ytaladlaffglkeaa
open Go.RowKit Go.Lib

end Go.Proofs.Ytaladlaffglkeaa
end
section

/- The contract of the reference's Entry of layer 7. Conditions: as many bytes as the slice says, no more than 4000; the entry is there. The contract of the reference's Step of layer 7. Conditions: as many bytes as the slice says, no more than 4000; the entries are there. The contract of same: a machine in memory against the reference's. Conditions: both tell the same numbers. The contract of Write of layer 7: a plan's bytes. Conditions: a plan in memory; no more than a thousand classes, rows and entries. swashlaw07.speaks returns true: two states, one entry. No condition. -/
namespace Go.Proofs.Ytaladlaffglkeaa
open Go.RowKit Go.Lib

def m16 (x : Int) : Nat := (x % 65536).toNat
theorem m16_lt (x : Int) : m16 x ≤ 65535 := by unfold m16; omega
/-- Put with its numbers as the text spells them. -/
theorem put_zz (base : Nat) (a : Option Addr) (n c v size m : Nat) (z y : Int) (hz : z = (v : Nat)) (hy : y = (size : Nat)) (hm : n + size = m) (xs : List UInt8) (w : World) (hown : w.ownsRow base 5 1 (.slice a n c) n (bytesV xs)) (hbase : base ≤ w.heap.size) (hv : v < 9223372036854775808) (hn : n ≤ 1000000000) (hs : size ≤ 8) :
    Calls Try.prog 70 #[.slice a n c, .int .i64 z, .int .i64 y] w fun e w' => ∃ a' c', e = .returned (.slice a' m c') ∧ w'.ownsRow base 5 1 (.slice a' m c') m (bytesV (xs ++ beN size v)) ∧ m ≤ c' ∧ c' ≤ maxLen ∧ (a' = none → c' = 0) ∧ Below base w w' ∧ Kept w w' := by
  subst hz hy hm
  refine (put_any base a n c v size xs w hown hbase hv hn hs).mono ?_
  rintro e w' ⟨a', c', h1, h2, h3, h4, h5, h6, h7⟩
  exact ⟨a', c', h1, h2, h3, h4, h5, h6, h7⟩
/-- A row of bytes of the call's own, as a slot. -/
def BRow (B : Nat) (xs : List UInt8) (v : Value) (wr : World) : Prop := ∃ (a' : Option Addr) (c' : Nat), v = .slice a' xs.length c' ∧ wr.ownsRow B 5 1 (.slice a' xs.length c') xs.length (bytesV xs) ∧ xs.length ≤ c' ∧ c' ≤ maxLen ∧ (a' = none → c' = 0)
theorem BRow.nil (B : Nat) (w : World) : BRow B [] (.slice none 0 0) w := ⟨none, 0, rfl, World.ownsRow_nil _ _ _ _, Nat.le_refl _, Nat.zero_le _, fun _ => rfl⟩
theorem BRow.below {B : Nat} {xs : List UInt8} {v : Value} {w w' : World} (h : BRow B xs v w) (hb : Below w.heap.size w w') : BRow B xs v w' := by
  obtain ⟨a', c', h1, h2, h3⟩ := h
  exact ⟨a', c', h1, owns_below h2 hb (Nat.le_refl _), h3⟩
theorem put_row (B v size : Nat) (z y : Int) (hz : z = (v : Nat)) (hy : y = (size : Nat)) (xs : List UInt8) (s : Value) (w : World) (h : BRow B xs s w) (hB : B ≤ w.heap.size) (hv : v < 9223372036854775808) (hn : xs.length ≤ 1000000000) (hs : size ≤ 8) :
    Calls Try.prog 70 #[s, .int .i64 z, .int .i64 y] w fun e w' => ∃ s', e = .returned s' ∧ BRow B (xs ++ beN size v) s' w' ∧ Below B w w' ∧ Kept w w' := by
  obtain ⟨a, c, rfl, h2, h3, h4, h5⟩ := h
  refine (put_zz B a xs.length c v size (xs ++ beN size v).length z y hz hy (by rw [List.length_append, beN_length]) xs w h2 hB hv hn hs).mono ?_
  rintro e w' ⟨a', c', rfl, g2, g3, g4, g5, g6, g7⟩
  exact ⟨_, rfl, ⟨a', c', rfl, g2, g3, g4, g5⟩, g6, g7⟩
theorem kept_ofA {W W' : World} (h : Kept W W' := by repeat (first | exact Kept.refl _ | assumption | refine Kept.trans ?_ (Kept.below (bdrew1 (brefl _))) | refine Kept.trans ?_ (Kept.below (balloc (brefl _) _)) | refine Kept.trans ?_ (by assumption))) : ∃ p : KeptW W, W' = p.val := kept_of h
theorem strCells_bytesM (s : ByteArray) : Lib.strCells s = bytesV s.data.toList := rfl
/-- 'append' of so many noughts onto a slice of the call's own. -/
theorem wpAppZM {P : Program} {w : World} {ops : Array Oper} {rest : List Oper} {o : Oper} {a : Act} {Q : Exit → Act → World → Prop} (hgd : o.guard = none) (s x : Operand) (t tn u : TypeId)
    (ho : o.op = .call { callee := .builtin .append, args := #[s, x], argTypes := #[t, tn] })
    (base : Nat) (e : TypeId) (ht : P.underlying t = some (.slice e)) (htn : P.underlying tn = some (.int .i64)) (hu : P.underlying u = some .string) (hi : (P.info? e).map (fun i => (i.zero, i.size, i.bytes)) = some (some (.int .u8 0), 1, 1))
    (v : Value) (n : Nat) (xs : List UInt8) (hs : a.eval s = v) (hown : w.ownsRow base e 1 v n (bytesV xs)) (k : Nat) (hx : a.eval x = .int .i64 k) (hb : n + k ≤ 140737488355328) (hbase : base ≤ w.heap.size)
    (h' : ∀ a' c' w', w'.ownsRow base e 1 (.slice a' (n + k) c') (n + k) (bytesV (xs ++ List.replicate k 0)) → n + k ≤ c' → c' ≤ maxLen → (a' = none → c' = 0) → Below base w w' → wpList P ops Q rest (a.put o.dst (.slice a' (n + k) c')) w') : wpList P ops Q (o :: rest) a w := by
  obtain ⟨i, hi, hz, hz1, hz2⟩ := info_parts hi
  obtain ⟨a0, c0, rfl, _, _, _⟩ := owns_slice hown
  have hsz : (str (List.replicate k 0)).size = k := by simp [str, ByteArray.size]
  obtain ⟨v', w', hr, g1, g2, _⟩ := Lib.run_append_own_string (P := P) w base t u o.type e i ht hu hi hz hz1 hz2 _ n (bytesV xs) hown (str (List.replicate k 0)) (by rw [hsz]; unfold maxLen; omega) (by rw [hsz]; exact hb) hbase
  rw [← run_zeros w t tn u o.type e i ht htn hu hi hz hz1 hz2 a0 n c0 k hb] at hr
  rw [hsz] at g1
  have e1 : bytesV xs ++ Lib.strCells (str (List.replicate k 0)) = bytesV (xs ++ List.replicate k 0) := by
    rw [bytesV_append, strCells_bytesM]; simp [str]
  rw [e1] at g1
  obtain ⟨a', c', rfl, k1, k2, k3⟩ := owns_slice g1
  exact Lib.wpList_append_run w hgd s x t tn ho _ _ hs hx _ w' hr (h' a' c' w' g1 k1 k2 k3 ((Below.refl base w).grown g2 hbase fun k hk => (hown.lt k hk).1))
end Go.Proofs.Ytaladlaffglkeaa
end
section

/- What an argument that is a plan is; the contract of small; numbers of a plan's bytes. Conditions: as each says. -/
namespace Go.Proofs.Ytaladlaffglkeaa
section
open Go.ChangeShapes Go.WideShapes Go.ChangeAt Go.RowKit
variable {H : Type} {enc : TypeId × Value → H}
theorem open_bytesC {P : Program} {W : World} {t e : TypeId} {f : Nat} {v : Value} {y : DataW H × List MemPlace} (ht : P.underlying t = some (.slice e)) (he : P.underlying e = some (.int .u8))
    (h : DataW.trod enc P W 0 (fun _ => true) true f t [v] = some y) : ∃ (a : Option Addr) (c : Nat) (bs : List UInt8), v = .slice a bs.length c ∧ Has W a (bytesV bs) := by
  obtain ⟨a, n, c, us, rfl, hl, _, _, _, hh, hx⟩ := open_rows_cell ht h
  have key : ∀ us : List (List Value), (∀ x ∈ us, ∃ m y, DataW.trod enc P W 0 (fun _ => true) true m e x = some y) → ∃ bs : List UInt8, bs.length = us.length ∧ us.flatten = bytesV bs := by
    intro us
    induction us with
    | nil => exact fun _ => ⟨[], rfl, rfl⟩
    | cons x us ih =>
      intro h
      obtain ⟨bs, h1, h2⟩ := ih (fun y hy => h y (by simp [hy]))
      obtain ⟨m, y, hy⟩ := h x (by simp)
      obtain ⟨z, rfl, _, hw⟩ := DataW.trod_int he hy
      obtain ⟨k, rfl, hk⟩ := wf_u8 hw
      refine ⟨UInt8.ofNat k :: bs, by simp [h1], ?_⟩
      have e1 : (UInt8.ofNat k).toNat = k := by simp; omega
      simp [h2, bytesV, e1]
  obtain ⟨bs, h1, h2⟩ := key us (fun x hx' => (hx x hx').2)
  exact ⟨a, c, bs, by rw [h1, hl], h2 ▸ hh⟩
end

open Go.RowKit Go.Lib
theorem numR (X Y : List UInt8) (m k s : Nat) (h : m = X.length + k) : num (X ++ Y) m s = num Y k s := by
  rw [h, ← num_dropS, List.drop_left]
theorem numL (X Y : List UInt8) (k s : Nat) (h : k + s ≤ X.length) : num (X ++ Y) k s = num X k s := by
  have := num_takeS (X ++ Y) X.length k s h
  rw [List.take_left] at this
  exact this.symm
theorem numB2 (z : Nat) (Z : List UInt8) (h : z ≤ 65535) : num (beN 2 z ++ Z) 0 2 = z := by
  rw [numL _ _ _ _ (by simp [beN_length])]
  simp [beN, num2, UInt8.toNat_ofNat']
  omega
theorem numB4 (z : Nat) (Z : List UInt8) (h : z ≤ 65535) : num (beN 4 z ++ Z) 0 4 = z := by
  rw [numL _ _ _ _ (by simp [beN_length])]
  simp [beN, num4, UInt8.toNat_ofNat']
  omega
end Go.Proofs.Ytaladlaffglkeaa
end
section

/- The document's Get of a lookup. Conditions: as each says. -/
namespace Go.Proofs.Ytaladlaffglkeaa
open Go.RowKit Go.Lib

end Go.Proofs.Ytaladlaffglkeaa
end
section

/- The document's Class and Step of a machine, as it is read of bytes. Conditions: as each says. -/
namespace Go.Proofs.Ytaladlaffglkeaa
open Go.RowKit Go.Lib

end Go.Proofs.Ytaladlaffglkeaa
end
