/- Joined from: MRefG MSt MFill MGet MRefR MSpeak MPlan MRefT MRefC. -/
import Derived.Test.YtbicnkopmamnpaaJ08
import Derived.Test.YtbicnkopmamnpaaJ01
import Derived.Test.YtbicnkopmamnpaaJ04
import Derived.Test.YtbicnkopmamnpaaJ06
import Derived.Test.YtbicnkopmamnpaaJ09
import Derived.Test.YtbicnkopmamnpaaJ02
import Derived.Lib.AppendZeros
import Derived.ChangeSame
section

/- The document's answer of a lookup's parts, as a function, and that it is the table's. Conditions: as each says. -/
namespace Go.Proofs.Ytbicnkopmamnpaa
open Go.RowKit Go.Lib

def inR (id : Int) (r : RP) : Bool := decide ((r.first : Int) ≤ id) && decide (id ≤ (r.last : Int))
/-- The first part that holds a glyph tells its number. -/
def refG (bs : List UInt8) (rs : List RP) (id : Int) : Nat × Bool := match rs.find? (inR id) with
  | some r => (num bs (r.at_ + (if r.own = true then r.size else 0) * (id - r.first).toNat) r.size, true)
  | none => (0, false)
theorem numsA_get (bs : List UInt8) (S k i : Nat) (h : i < k) : (numsA bs S k).getD i 0 = num bs (i * S) S := by
  simp [numsA, List.getD_eq_getElem?_getD, h]
theorem refG_tab (bs : List UInt8) (rs : List RP) (h : okR bs rs) (hr : ∀ r ∈ rs, r.last ≤ 70000 ∧ (r.size = 1 ∨ r.size = 2 ∨ r.size = 4)) (id : Int) : ∀ k, k ≤ rs.length → getL (tabR bs (rs.take k)).1 (tabR bs (rs.take k)).2 id = refG bs (rs.take k) id ∧ ((tabR bs (rs.take k)).1.find? (inP id) = none ↔ (rs.take k).find? (inR id) = none)
  | 0, _ => by rw [List.take_zero]; exact ⟨rfl, by simp [tabR]⟩
  | k + 1, hk => by
    have hx := List.getElem?_eq_getElem (show k < rs.length by omega)
    obtain ⟨ih1, ih2⟩ := refG_tab bs rs h hr id k (by omega)
    have hinv := invR_take bs rs h hr k (by omega)
    rw [tabR_take_succ hx, List.take_add_one, hx]
    generalize tabR bs (rs.take k) = s at *
    generalize rs.take k = l at *
    generalize rs[k] = r at *
    obtain ⟨ps, ns⟩ := s
    simp only [stepR, Option.toList]
    have hpr : inP id ⟨r.first, r.last, ns.length, if r.own = true then 1 else 0⟩ = inR id r := rfl
    cases hf : ps.find? (inP id) with
    | some p =>
      have hl : l.find? (inR id) ≠ none := fun hn => by
        have := ih2.2 hn
        simp only at this
        rw [hf] at this
        cases this
      obtain ⟨q, hq⟩ := Option.ne_none_iff_exists'.1 hl
      have hok := hinv.ok p (List.mem_of_find?_eq_some hf)
      have hin := List.find?_some hf
      simp only [inP, Bool.and_eq_true, decide_eq_true_eq] at hin
      have hlt : p.at_ + p.step * (id - p.first).toNat < ns.length := by
        obtain ⟨h1, h2, _⟩ := hok
        simp only at h2
        rcases h1 with h1 | h1 <;> rw [h1] at h2 ⊢ <;> omega
      constructor
      · unfold getL refG at ih1 ⊢
        simp only [List.find?_append, hf, hq, Option.some_or] at ih1 ⊢
        rw [← ih1, List.getD_eq_getElem?_getD, List.getElem?_append_left hlt, List.getD_eq_getElem?_getD]
      · simp [List.find?_append, hf, hq]
    | none =>
      have hl := ih2.1 hf
      constructor
      · unfold getL refG
        simp only [List.find?_append, hf, hl, Option.none_or, List.find?_cons, hpr]
        cases hi : inR id r with
        | false => rfl
        | true =>
          simp only [inR, Bool.and_eq_true, decide_eq_true_eq] at hi
          simp only
          congr 1
          cases ho : r.own with
          | true =>
            have hlt : (id - (r.first : Int)).toNat < r.last - r.first + 1 := by omega
            simp only [numsR, ho, if_true, Nat.one_mul]
            rw [List.getD_eq_getElem?_getD, List.getElem?_append_right (by omega), Nat.add_sub_cancel_left, ← List.getD_eq_getElem?_getD, numsA_get _ _ _ _ hlt, num_dropS, Nat.mul_comm]
          | false =>
            simp only [numsR, ho, Bool.false_eq_true, if_false, Nat.zero_mul, Nat.add_zero]
            rw [List.getD_eq_getElem?_getD, List.getElem?_append_right (by omega), Nat.sub_self]
            rfl
      · simp only [List.find?_append, hf, hl, Option.none_or, List.find?_cons, hpr]
        cases inR id r <;> simp
theorem refG_at (bs : List UInt8) (rs : List RP) (id : Int) (j : Nat) (r : RP) (hr : rs[j]? = some r) (hno : ∀ x ∈ rs.take j, inR id x = false) (hin : inR id r = true) : refG bs rs id = (num bs (r.at_ + (if r.own = true then r.size else 0) * (id - r.first).toNat) r.size, true) := by
  have h : rs.find? (inR id) = some r := by
    have e : rs = rs.take j ++ (r :: rs.drop (j + 1)) := by
      have := List.take_append_drop j rs
      obtain ⟨hj, rfl⟩ := List.getElem?_eq_some_iff.1 hr
      rw [← List.drop_eq_getElem_cons hj]
      exact this.symm
    have hn : (rs.take j).find? (inR id) = none := List.find?_eq_none.2 fun x hx => by simp [hno x hx]
    rw [e, List.find?_append, hn, Option.none_or, List.find?_cons, hin]
  unfold refG
  rw [h]
theorem refG_no (bs : List UInt8) (rs : List RP) (id : Int) (hno : ∀ x ∈ rs, inR id x = false) : refG bs rs id = (0, false) := by
  have hn : rs.find? (inR id) = none := List.find?_eq_none.2 fun x hx => by simp [hno x hx]
  unfold refG
  rw [hn]
def fitG (n : Nat) (r : RP) : Prop := r.first ≤ 70000 ∧ r.last ≤ 70000 ∧ (r.size = 1 ∨ r.size = 2 ∨ r.size = 4) ∧ r.at_ + (if r.own = true then (r.last - r.first + 1) * r.size else r.size) ≤ n
theorem fitG_at {n : Nat} {r : RP} (h : fitG n r) {id : Int} (h1 : (r.first : Int) ≤ id) (h2 : id ≤ (r.last : Int)) : r.at_ + (if r.own = true then r.size else 0) * (id - r.first).toNat + r.size ≤ n := by
  obtain ⟨_, _, _, h4⟩ := h
  have hm : ((id - (r.first : Int)).toNat + 1) * r.size ≤ (r.last - r.first + 1) * r.size := Nat.mul_le_mul_right _ (by omega)
  rw [Nat.succ_mul] at hm
  split at h4
  · rename_i ho
    rw [if_pos ho, Nat.mul_comm]
    omega
  · rename_i ho
    rw [if_neg ho, Nat.zero_mul]
    omega
end Go.Proofs.Ytbicnkopmamnpaa
end
section

/- state.entry: an entry of a view, its words by how many there are. Conditions: as many bytes as the slice says, as many as an entry has. What a machine is, by its bytes: its classes, where its states and entries stand, how many there are. Conditions: as the lemmas say. A machine in memory while it is filled: its states' rows, its entries. Conditions: as the lemmas say. -/
namespace Go.Proofs.Ytbicnkopmamnpaa
open Go.RowKit Go.Lib

end Go.Proofs.Ytbicnkopmamnpaa
end
section

/- A class of worlds: all blocks that aren't a call's own are as they were, by their numbers and types. No condition of its own. The contract of (*state.Machine).addEntries. Conditions: as many bytes as the slice says; a machine that is being filled. The contract of (*state.Machine).addStates. Conditions: as many bytes as the slice says; a machine that is being filled. The contract of (*state.Machine).fill. Conditions: as many bytes as the slices say; a machine without states. -/
namespace Go.Proofs.Ytbicnkopmamnpaa
open Go.RowKit

open Go.RowKit Go.Lib

end Go.Proofs.Ytbicnkopmamnpaa
end
section

/- The contract of state.Take. Conditions: as many bytes as the slice says; glyphs from 1 to 65535, words from 0 to 2. The contract of state.Read. Conditions: as many bytes as the slice says. The contracts of a machine's calls: Classes, States, Entries, Step, Class. Conditions: a machine in memory, as its bytes tell it. -/
namespace Go.Proofs.Ytbicnkopmamnpaa
open Go.RowKit Go.Lib

end Go.Proofs.Ytbicnkopmamnpaa
end
section

/- The contract of the reference's needs of layer 7. Conditions: as many bytes as the slice says, no more than 4000; all numbers there. The contract of the reference's Read of layer 7. Conditions: as many bytes as the slice says, no more than 4000; glyphs from 1 to 65535, words from 0 to 2. -/
namespace Go.Proofs.Ytbicnkopmamnpaa
open Go.RowKit Go.Lib

end Go.Proofs.Ytbicnkopmamnpaa
end
section

/- The contract of the reference's Entry of layer 7. Conditions: as many bytes as the slice says, no more than 4000; the entry is there. The contract of the reference's Step of layer 7. Conditions: as many bytes as the slice says, no more than 4000; the entries are there. The contract of same: a machine in memory against the reference's. Conditions: both tell the same numbers. The contract of Write of layer 7: a plan's bytes. Conditions: a plan in memory; no more than a thousand classes, rows and entries. swashlaw07.speaks returns true: two states, one entry. No condition. -/
namespace Go.Proofs.Ytbicnkopmamnpaa
open Go.RowKit Go.Lib

/-- A plan to be written. -/
structure PlanL where
  cls : List UInt8
  rows : List (List UInt8)
  ents : List (Int × Int × Int × Int)
  wide : UInt8
def m16 (x : Int) : Nat := (x % 65536).toNat
theorem m16_lt (x : Int) : m16 x ≤ 65535 := by unfold m16; omega
/-- Put with its numbers as the text spells them. -/
theorem put_zz (base : Nat) (a : Option Addr) (n c v size m : Nat) (z y : Int) (hz : z = (v : Nat)) (hy : y = (size : Nat)) (hm : n + size = m) (xs : List UInt8) (w : World) (hown : w.ownsRow base 5 1 (.slice a n c) n (bytesV xs)) (hbase : base ≤ w.heap.size) (hv : v < 9223372036854775808) (hn : n ≤ 1000000000) (hs : size ≤ 8) :
    Calls Try.prog 67 #[.slice a n c, .int .i64 z, .int .i64 y] w fun e w' => ∃ a' c', e = .returned (.slice a' m c') ∧ w'.ownsRow base 5 1 (.slice a' m c') m (bytesV (xs ++ beN size v)) ∧ m ≤ c' ∧ c' ≤ maxLen ∧ (a' = none → c' = 0) ∧ Below base w w' ∧ Kept w w' := by
  subst hz hy hm
  refine (put_any base a n c v size xs w hown hbase hv hn hs).mono ?_
  rintro e w' ⟨a', c', h1, h2, h3, h4, h5, h6, h7⟩
  exact ⟨a', c', h1, h2, h3, h4, h5, h6, h7⟩
/-- A row of bytes of the call's own, as a slot. -/
def BRow (B : Nat) (xs : List UInt8) (v : Value) (wr : World) : Prop := ∃ (a' : Option Addr) (c' : Nat), v = .slice a' xs.length c' ∧ wr.ownsRow B 5 1 (.slice a' xs.length c') xs.length (bytesV xs) ∧ xs.length ≤ c' ∧ c' ≤ maxLen ∧ (a' = none → c' = 0)
theorem BRow.nil (B : Nat) (w : World) : BRow B [] (.slice none 0 0) w := ⟨none, 0, rfl, World.ownsRow_nil _ _ _ _, Nat.le_refl _, Nat.zero_le _, fun _ => rfl⟩
theorem BRow.below {B : Nat} {xs : List UInt8} {v : Value} {w w' : World} (h : BRow B xs v w) (hb : Below w.heap.size w w') : BRow B xs v w' := by
  obtain ⟨a', c', h1, h2, h3⟩ := h
  exact ⟨a', c', h1, owns_below h2 hb (Nat.le_refl _), h3⟩
theorem put_row (B v size : Nat) (z y : Int) (hz : z = (v : Nat)) (hy : y = (size : Nat)) (xs : List UInt8) (s : Value) (w : World) (h : BRow B xs s w) (hB : B ≤ w.heap.size) (hv : v < 9223372036854775808) (hn : xs.length ≤ 1000000000) (hs : size ≤ 8) :
    Calls Try.prog 67 #[s, .int .i64 z, .int .i64 y] w fun e w' => ∃ s', e = .returned s' ∧ BRow B (xs ++ beN size v) s' w' ∧ Below B w w' ∧ Kept w w' := by
  obtain ⟨a, c, rfl, h2, h3, h4, h5⟩ := h
  refine (put_zz B a xs.length c v size (xs ++ beN size v).length z y hz hy (by rw [List.length_append, beN_length]) xs w h2 hB hv hn hs).mono ?_
  rintro e w' ⟨a', c', rfl, g2, g3, g4, g5, g6, g7⟩
  exact ⟨_, rfl, ⟨a', c', rfl, g2, g3, g4, g5⟩, g6, g7⟩
theorem kept_ofA {W W' : World} (h : Kept W W' := by repeat (first | exact Kept.refl _ | assumption | refine Kept.trans ?_ (Kept.below (bdrew1 (brefl _))) | refine Kept.trans ?_ (Kept.below (balloc (brefl _) _)) | refine Kept.trans ?_ (by assumption))) : ∃ p : KeptW W, W' = p.val := kept_of h
theorem strCells_bytesM (s : ByteArray) : Lib.strCells s = bytesV s.data.toList := rfl
/-- 'append' of so many noughts onto a slice of the call's own. -/
theorem wpAppZM {P : Program} {w : World} {ops : Array Oper} {rest : List Oper} {o : Oper} {a : Act} {Q : Exit → Act → World → Prop} (hgd : o.guard = none) (s x : Operand) (t tn u : TypeId)
    (ho : o.op = .call { callee := .builtin .append, args := #[s, x], argTypes := #[t, tn] })
    (base : Nat) (e : TypeId) (ht : P.underlying t = some (.slice e)) (htn : P.underlying tn = some (.int .i64)) (hu : P.underlying u = some .string) (hi : (P.info? e).map (fun i => (i.zero, i.size, i.bytes)) = some (some (.int .u8 0), 1, 1))
    (v : Value) (n : Nat) (xs : List UInt8) (hs : a.eval s = v) (hown : w.ownsRow base e 1 v n (bytesV xs)) (k : Nat) (hx : a.eval x = .int .i64 k) (hb : n + k ≤ 140737488355328) (hbase : base ≤ w.heap.size)
    (h' : ∀ a' c' w', w'.ownsRow base e 1 (.slice a' (n + k) c') (n + k) (bytesV (xs ++ List.replicate k 0)) → n + k ≤ c' → c' ≤ maxLen → (a' = none → c' = 0) → Below base w w' → wpList P ops Q rest (a.put o.dst (.slice a' (n + k) c')) w') : wpList P ops Q (o :: rest) a w := by
  obtain ⟨i, hi, hz, hz1, hz2⟩ := info_parts hi
  obtain ⟨a0, c0, rfl, _, _, _⟩ := owns_slice hown
  have hsz : (str (List.replicate k 0)).size = k := by simp [str, ByteArray.size]
  obtain ⟨v', w', hr, g1, g2, _⟩ := Lib.run_append_own_string (P := P) w base t u o.type e i ht hu hi hz hz1 hz2 _ n (bytesV xs) hown (str (List.replicate k 0)) (by rw [hsz]; unfold maxLen; omega) (by rw [hsz]; exact hb) hbase
  rw [← run_zeros w t tn u o.type e i ht htn hu hi hz hz1 hz2 a0 n c0 k hb] at hr
  rw [hsz] at g1
  have e1 : bytesV xs ++ Lib.strCells (str (List.replicate k 0)) = bytesV (xs ++ List.replicate k 0) := by
    rw [bytesV_append, strCells_bytesM]; simp [str]
  rw [e1] at g1
  obtain ⟨a', c', rfl, k1, k2, k3⟩ := owns_slice g1
  exact Lib.wpList_append_run w hgd s x t tn ho _ _ hs hx _ w' hr (h' a' c' w' g1 k1 k2 k3 ((Below.refl base w).grown g2 hbase fun k hk => (hown.lt k hk).1))
end Go.Proofs.Ytbicnkopmamnpaa
end
section

/- What an argument that is a plan is; the contract of small; numbers of a plan's bytes. Conditions: as each says. -/
namespace Go.Proofs.Ytbicnkopmamnpaa
section
open Go.ChangeShapes Go.WideShapes Go.ChangeAt Go.RowKit
variable {H : Type} {enc : TypeId × Value → H}
theorem open_bytesC {P : Program} {W : World} {t e : TypeId} {f : Nat} {v : Value} {y : DataW H × List MemPlace} (ht : P.underlying t = some (.slice e)) (he : P.underlying e = some (.int .u8))
    (h : DataW.trod enc P W 0 (fun _ => true) true f t [v] = some y) : ∃ (a : Option Addr) (c : Nat) (bs : List UInt8), v = .slice a bs.length c ∧ Has W a (bytesV bs) := by
  obtain ⟨a, n, c, us, rfl, hl, _, _, _, hh, hx⟩ := open_rows_cell ht h
  have key : ∀ us : List (List Value), (∀ x ∈ us, ∃ m y, DataW.trod enc P W 0 (fun _ => true) true m e x = some y) → ∃ bs : List UInt8, bs.length = us.length ∧ us.flatten = bytesV bs := by
    intro us
    induction us with
    | nil => exact fun _ => ⟨[], rfl, rfl⟩
    | cons x us ih =>
      intro h
      obtain ⟨bs, h1, h2⟩ := ih (fun y hy => h y (by simp [hy]))
      obtain ⟨m, y, hy⟩ := h x (by simp)
      obtain ⟨z, rfl, _, hw⟩ := DataW.trod_int he hy
      obtain ⟨k, rfl, hk⟩ := wf_u8 hw
      refine ⟨UInt8.ofNat k :: bs, by simp [h1], ?_⟩
      have e1 : (UInt8.ofNat k).toNat = k := by simp; omega
      simp [h2, bytesV, e1]
  obtain ⟨bs, h1, h2⟩ := key us (fun x hx' => (hx x hx').2)
  exact ⟨a, c, bs, by rw [h1, hl], h2 ▸ hh⟩
end

open Go.RowKit Go.Lib
theorem numR (X Y : List UInt8) (m k s : Nat) (h : m = X.length + k) : num (X ++ Y) m s = num Y k s := by
  rw [h, ← num_dropS, List.drop_left]
theorem numL (X Y : List UInt8) (k s : Nat) (h : k + s ≤ X.length) : num (X ++ Y) k s = num X k s := by
  have := num_takeS (X ++ Y) X.length k s h
  rw [List.take_left] at this
  exact this.symm
theorem numB2 (z : Nat) (Z : List UInt8) (h : z ≤ 65535) : num (beN 2 z ++ Z) 0 2 = z := by
  rw [numL _ _ _ _ (by simp [beN_length])]
  simp [beN, num2, UInt8.toNat_ofNat']
  omega
theorem numB4 (z : Nat) (Z : List UInt8) (h : z ≤ 65535) : num (beN 4 z ++ Z) 0 4 = z := by
  rw [numL _ _ _ _ (by simp [beN_length])]
  simp [beN, num4, UInt8.toNat_ofNat']
  omega
end Go.Proofs.Ytbicnkopmamnpaa
end
section

/- The document's Get of a lookup. Conditions: as each says. -/
namespace Go.Proofs.Ytbicnkopmamnpaa
open Go.RowKit Go.Lib

set_option maxRecDepth 100000 in
set_option maxHeartbeats 3200000 in
theorem refget_any (a : Option Addr) (n c : Nat) (bs : List UInt8) (a' : Option Addr) (c' : Nat) (rs : List RP) (id : Int) (w : World) (h : Has w a (bytesV bs)) (hl : bs.length = n) (hn : n ≤ 100000000) (hr : Has w a' (encRs rs)) (hrl : rs.length ≤ 100000) (hf : ∀ r ∈ rs, fitG n r) (hid : -9223372036854775808 ≤ id ∧ id ≤ 9223372036854775807) :
    Calls Try.prog 104 #[.agg #[.slice a n c, .slice a' rs.length c'], .int .i64 id] w fun e w' => e = .returned (.tuple #[.int .i64 ((refG bs rs id).1 : Nat), .bool (refG bs rs id).2]) ∧ Below w.heap.size w w' := by
  have hAC := allocC
  have hAF := allocF
  have HH := Lib.hid h
  have HL := Lib.hid hl
  have HR := Lib.hid hr
  have HF := Lib.hid hf
  obtain ⟨L, hL⟩ : ∃ L, L = rs.length := ⟨_, rfl⟩
  rw [← hL] at hrl ⊢
  have HLr := Lib.hid hL
  clear h hl hr hf hL
  go_enter Try.func104, Try.ntmps104
  go_wp2_with fail
  obtain ⟨V, hV⟩ : ∃ V, V = (w.alloc (Obj.cells #[.slice a n c, .slice a' L c'] 42)) := ⟨_, rfl⟩
  have hb : Below w.heap.size w V := by rw [hV]; exact balloc (brefl w) _
  have z0 : V.heap[w.heap.size]? = some (.cells #[.slice a n c, .slice a' L c'] 42 (0, 0)) := by rw [hV, heap_push, if_pos rfl]
  rw [← hV]
  have HB := Lib.hid hb
  have Z0 := Lib.hid z0
  have hl0 := (Array.getElem?_eq_some_iff.1 z0).1
  have hwV := hb.size
  clear hV hb z0
  go_loopw [6] (fun i wr => ∃ j : Nat, j ≤ L ∧ i = .int .i64 (j : Nat) ∧ (∀ x ∈ rs.take j, inR id x = false) ∧ Below V.heap.size V wr) (fun i _ => L - (Go.RowKit.intOf i).toNat)
  case atStart => exact ⟨0, Nat.zero_le _, rfl, fun x hx => by simp at hx, brefl _⟩
  case round =>
    obtain ⟨j, hj, rfl, hno, hbr⟩ := hrel
    have HNO := Lib.hid hno
    have HBR := Lib.hid (HB.out.trans (hbr.mono hwV))
    have HBR0 := Lib.hid hbr
    have z0 := (hbr.block _ hl0).trans Z0.out
    have q0 := fun o => cell_of_heap z0 o
    have l0 := (Array.getElem?_eq_some_iff.1 z0).1
    clear hno hbr z0
    by_cases hlt : j < L
    · obtain ⟨r, hr⟩ : ∃ r, rs[j]? = some r := ⟨_, List.getElem?_eq_getElem (by rw [← HLr.out]; exact hlt)⟩
      have hfr := HF.out r (List.mem_of_getElem? hr)
      have HE := HR.out.below HBR.out
      obtain ⟨bE, oE, hbE, hblE, hcE⟩ := HE.get (by
        rcases Nat.eq_zero_or_pos (encRs rs).length with g0 | g0
        · have := encRs_get rs j r hr 0 (by omega)
          rw [List.getElem?_eq_none (by omega)] at this
          simp [encR] at this
        · exact g0)
      have e0 := hcE (j * 5) _ (encRs_get rs j r hr 0 (by omega))
      have e1 := hcE (j * 5 + 1) _ (encRs_get rs j r hr 1 (by omega))
      have e2 := hcE (j * 5 + 2) _ (encRs_get rs j r hr 2 (by omega))
      have e3 := hcE (j * 5 + 3) _ (encRs_get rs j r hr 3 (by omega))
      have e4 := hcE (j * 5 + 4) _ (encRs_get rs j r hr 4 (by omega))
      simp only [← Nat.add_assoc] at e0 e1 e2 e3 e4
      subst hbE
      clear hcE HE
      have HZ := Lib.hid (refG_at bs rs id j r hr HNO.out)
      have HT := Lib.hid (show ∀ x ∈ rs.take (j + 1), inR id r = false → inR id x = false from fun x hx hfa => by
        rw [List.take_add_one, hr] at hx
        rcases List.mem_append.1 hx with hx | hx
        · exact HNO.out x hx
        · simp at hx
          rw [hx]
          exact hfa)
      have HAT := Lib.hid (fun h1 h2 => fitG_at hfr (id := id) h1 h2)
      obtain ⟨f1, f2, f3, f4⟩ := hfr
      have hin : inR id r = (decide ((r.first : Int) ≤ id) && decide (id ≤ (r.last : Int))) := rfl
      have HIN := Lib.hid hin
      have fa : r.at_ ≤ n := by
        split at f4 <;> omega
      clear hin f4 hr
      obtain ⟨st, hst⟩ : ∃ st, st = (if r.own = true then r.size else 0) := ⟨_, rfl⟩
      have hst4 : st ≤ 4 := by rw [hst]; split <;> omega
      have hst5 : st = 0 ∨ st = 1 ∨ st = 2 ∨ st = 4 := by rw [hst]; split <;> omega
      rw [← hst] at HZ HAT e4
      clear hst
      generalize r.first = F at *
      generalize r.last = E at *
      generalize r.at_ = A at *
      generalize r.size = S at *
      have lE := cell_lt e0
      simp only at lE
      by_cases h1 : (F : Int) ≤ id
      case neg =>
        have d1 : decide ((F : Int) ≤ id) = false := by simpa using h1
        have hfa : inR id r = false := by rw [HIN.out, d1]; rfl
        have HTT := Lib.hid (fun x hx => HT.out x hx hfa)
        clear hfa h1
        go_wp2_with fail
        go_roundw
        case rel => exact ⟨j + 1, hlt, by go_num, HTT.out, HBR0.out.trans (Below.mono (show Below wr.heap.size wr _ from by exact blw) HBR0.out.size)⟩
        case measure => simp [Go.RowKit.intOf]; omega
      have d1 : decide ((F : Int) ≤ id) = true := by simpa using h1
      by_cases h2 : id ≤ (E : Int)
      case neg =>
        have d2 : decide (id ≤ (E : Int)) = false := by simpa using h2
        have hfa : inR id r = false := by rw [HIN.out, d1, d2]; rfl
        have HTT := Lib.hid (fun x hx => HT.out x hx hfa)
        clear hfa h1 h2
        go_wp2_with fail
        go_roundw
        case rel => exact ⟨j + 1, hlt, by go_num, HTT.out, HBR0.out.trans (Below.mono (show Below wr.heap.size wr _ from by exact blw) HBR0.out.size)⟩
        case measure => simp [Go.RowKit.intOf]; omega
      have d2 : decide (id ≤ (E : Int)) = true := by simpa using h2
      have hz := HZ.out (by rw [HIN.out, d1, d2]; rfl)
      have hat := HAT.out h1 h2
      obtain ⟨k, rfl⟩ : ∃ k : Nat, id = (F : Int) + (k : Nat) := ⟨(id - F).toNat, by omega⟩
      have hk : ((F : Int) + (k : Nat) - (F : Int)).toNat = k := by omega
      rw [hk] at hz hat
      have HZZ := Lib.hid hz
      have HAT2 := Lib.hid hat
      have hF3 : (F : Int) + (k : Int) - (F : Int) = (k : Int) := by omega
      have hS4 : S ≤ n := by omega
      have hS5 : S ≤ 4 := by omega
      have hk7 : k ≤ 70000 := by omega
      clear hz hk HZ HAT HT HIN f3 hat
      rcases hst5 with rfl | rfl | rfl | rfl
      · have hat := HAT2.out
        have e4 : _ = some (Value.int .i64 0) := e4
        have HU := Lib.hid (fun W (hW : Below w.heap.size w W) (z y : Int) (hz : z = (A : Int) + ((0 * k : Nat) : Int)) (hy : y = (S : Nat)) => show Calls Try.prog 70 #[.slice a n c, .int .i64 z, .int .i64 y] W fun e w' => e = .returned (.int .i64 (num bs (A + 0 * k) S : Nat)) ∧ W = w' from by subst hz hy; rw [← Int.natCast_add]; exact u_in a n c (A + 0 * k) S bs W (HH.out.below hW) HL.out hat (by omega) (by unfold maxLen; omega))
        generalize num bs (A + 0 * k) S = X at *
        clear HAT2
        go_wp2_with (first | (go_at_call 70; (with_reducible refine (HU.out _ (HBR.out.trans (Below.mono (w := wr) (by exact blw) HBR.out.size)) _ _ (by omega) rfl).mono ?_); rintro e wu ⟨rfl, rfl⟩))
        refine bodyPost_ret (v := .tuple #[.int .i64 (X : Nat), .bool true]) (by simp [results, Try.results104, go_sem]) rfl ?_
        refine ⟨?_, HBR.out.trans (Below.mono (show Below wr.heap.size wr _ from by exact blw) HBR.out.size)⟩
        rw [HZZ.out]
      · have hat := HAT2.out
        have e4 : _ = some (Value.int .i64 1) := e4
        have HU := Lib.hid (fun W (hW : Below w.heap.size w W) (z y : Int) (hz : z = (A : Int) + ((1 * k : Nat) : Int)) (hy : y = (S : Nat)) => show Calls Try.prog 70 #[.slice a n c, .int .i64 z, .int .i64 y] W fun e w' => e = .returned (.int .i64 (num bs (A + 1 * k) S : Nat)) ∧ W = w' from by subst hz hy; rw [← Int.natCast_add]; exact u_in a n c (A + 1 * k) S bs W (HH.out.below hW) HL.out hat (by omega) (by unfold maxLen; omega))
        generalize num bs (A + 1 * k) S = X at *
        clear HAT2
        go_wp2_with (first | (go_at_call 70; (with_reducible refine (HU.out _ (HBR.out.trans (Below.mono (w := wr) (by exact blw) HBR.out.size)) _ _ (by omega) rfl).mono ?_); rintro e wu ⟨rfl, rfl⟩))
        refine bodyPost_ret (v := .tuple #[.int .i64 (X : Nat), .bool true]) (by simp [results, Try.results104, go_sem]) rfl ?_
        refine ⟨?_, HBR.out.trans (Below.mono (show Below wr.heap.size wr _ from by exact blw) HBR.out.size)⟩
        rw [HZZ.out]
      · have hat := HAT2.out
        have e4 : _ = some (Value.int .i64 2) := e4
        have HU := Lib.hid (fun W (hW : Below w.heap.size w W) (z y : Int) (hz : z = (A : Int) + ((2 * k : Nat) : Int)) (hy : y = (S : Nat)) => show Calls Try.prog 70 #[.slice a n c, .int .i64 z, .int .i64 y] W fun e w' => e = .returned (.int .i64 (num bs (A + 2 * k) S : Nat)) ∧ W = w' from by subst hz hy; rw [← Int.natCast_add]; exact u_in a n c (A + 2 * k) S bs W (HH.out.below hW) HL.out hat (by omega) (by unfold maxLen; omega))
        generalize num bs (A + 2 * k) S = X at *
        clear HAT2
        go_wp2_with (first | (go_at_call 70; (with_reducible refine (HU.out _ (HBR.out.trans (Below.mono (w := wr) (by exact blw) HBR.out.size)) _ _ (by omega) rfl).mono ?_); rintro e wu ⟨rfl, rfl⟩))
        refine bodyPost_ret (v := .tuple #[.int .i64 (X : Nat), .bool true]) (by simp [results, Try.results104, go_sem]) rfl ?_
        refine ⟨?_, HBR.out.trans (Below.mono (show Below wr.heap.size wr _ from by exact blw) HBR.out.size)⟩
        rw [HZZ.out]
      · have hat := HAT2.out
        have e4 : _ = some (Value.int .i64 4) := e4
        have HU := Lib.hid (fun W (hW : Below w.heap.size w W) (z y : Int) (hz : z = (A : Int) + ((4 * k : Nat) : Int)) (hy : y = (S : Nat)) => show Calls Try.prog 70 #[.slice a n c, .int .i64 z, .int .i64 y] W fun e w' => e = .returned (.int .i64 (num bs (A + 4 * k) S : Nat)) ∧ W = w' from by subst hz hy; rw [← Int.natCast_add]; exact u_in a n c (A + 4 * k) S bs W (HH.out.below hW) HL.out hat (by omega) (by unfold maxLen; omega))
        generalize num bs (A + 4 * k) S = X at *
        clear HAT2
        go_wp2_with (first | (go_at_call 70; (with_reducible refine (HU.out _ (HBR.out.trans (Below.mono (w := wr) (by exact blw) HBR.out.size)) _ _ (by omega) rfl).mono ?_); rintro e wu ⟨rfl, rfl⟩))
        refine bodyPost_ret (v := .tuple #[.int .i64 (X : Nat), .bool true]) (by simp [results, Try.results104, go_sem]) rfl ?_
        refine ⟨?_, HBR.out.trans (Below.mono (show Below wr.heap.size wr _ from by exact blw) HBR.out.size)⟩
        rw [HZZ.out]
    · obtain rfl : L = j := by omega
      have hz := refG_no bs rs id (by have := HNO.out; rwa [List.take_of_length_le (by rw [← HLr.out]; omega)] at this)
      have HZZ := Lib.hid hz
      clear hz
      go_wp2_with fail
      refine bodyPost_ret (v := .tuple #[.int .i64 0, .bool false]) (by simp [results, Try.results104, go_sem]) rfl ?_
      exact ⟨by rw [HZZ.out]; rfl, HBR.out⟩
end Go.Proofs.Ytbicnkopmamnpaa
end
section

/- The document's Class and Step of a machine, as it is read of bytes. Conditions: as each says. -/
namespace Go.Proofs.Ytbicnkopmamnpaa
open Go.RowKit Go.Lib

theorem lk_small {bs : List UInt8} {glyphs size : Nat} {rs : List RP} (h : LkRows bs glyphs size rs) : ∀ r ∈ rs, r.own = false → r.at_ + r.size ≤ bs.length := by
  intro r hr ho
  cases h with
  | all => simp at hr; subst hr; cases ho
  | two h h0 h1 =>
    obtain ⟨i, hi, rfl⟩ := List.mem_map.1 hr
    have hi := List.mem_range.1 hi
    have hf := h1.rows
    have hs := h1.size
    have hM : skM bs 2 2 ≤ skN bs 2 := by unfold skM; split <;> omega
    have : i * skS bs 2 + skS bs 2 ≤ skN bs 2 * skS bs 2 := by rw [← Nat.succ_mul]; exact Nat.mul_le_mul_right _ (by omega)
    show 12 + i * skS bs 2 + 4 + size ≤ bs.length
    omega
  | four h h0 h1 => obtain ⟨i, hi, rfl⟩ := List.mem_map.1 hr; cases ho
  | six h h0 h1 =>
    obtain ⟨i, hi, rfl⟩ := List.mem_map.1 hr
    have hi := List.mem_range.1 hi
    have hf := h1.rows
    have hs := h1.size
    have hM : skM bs 2 1 ≤ skN bs 2 := by unfold skM; split <;> omega
    have : i * skS bs 2 + skS bs 2 ≤ skN bs 2 * skS bs 2 := by rw [← Nat.succ_mul]; exact Nat.mul_le_mul_right _ (by omega)
    show 12 + i * skS bs 2 + 2 + size ≤ bs.length
    omega
  | eight h h0 h1 => unfold rowsT at hr; split at hr <;> simp at hr; subst hr; cases ho
  | ten h h0 hu h1 => unfold rowsT at hr; split at hr <;> simp at hr; subst hr; cases ho
theorem LkOk.fitG {bs : List UInt8} {glyphs size : Nat} {rs : List RP} (h : LkOk bs glyphs size rs) (hg : glyphs ≤ 65535) (hs : size = 2 ∨ size = 4) : ∀ r ∈ rs, fitG bs.length r := by
  intro r hr
  obtain ⟨e1, e2⟩ := (h.rows.each hg hs).2 r hr
  have h3 := lk_small h.rows r hr
  obtain ⟨i, hi, rfl⟩ := List.getElem_of_mem hr
  obtain ⟨⟨c1, c2⟩, c3⟩ := h.ok i _ (List.getElem?_eq_getElem hi)
  refine ⟨by omega, e1, e2, ?_⟩
  cases ho : rs[i].own with
  | true => rw [if_pos rfl]; exact c3 ho
  | false => rw [if_neg (by simp)]; exact h3 ho
end Go.Proofs.Ytbicnkopmamnpaa
end
