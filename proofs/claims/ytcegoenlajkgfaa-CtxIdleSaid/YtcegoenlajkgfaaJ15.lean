/- Joined from: MPlan MRefG MRefT MRefC. -/
import Derived.ChangeSame
import Derived.Test.YtcegoenlajkgfaaJ14
import Derived.Test.YtcegoenlajkgfaaJ01
import Derived.Test.YtcegoenlajkgfaaJ08
import Derived.Test.YtcegoenlajkgfaaJ09
section

/- What an argument that is a plan is; the contract of small; numbers of a plan's bytes. Conditions: as each says. -/
namespace Go.Proofs.Ytcegoenlajkgfaa
section
open Go.ChangeShapes Go.WideShapes Go.ChangeAt Go.RowKit
variable {H : Type} {enc : TypeId × Value → H}
theorem open_bytesC {P : Program} {W : World} {t e : TypeId} {f : Nat} {v : Value} {y : DataW H × List MemPlace} (ht : P.underlying t = some (.slice e)) (he : P.underlying e = some (.int .u8))
    (h : DataW.trod enc P W 0 (fun _ => true) true f t [v] = some y) : ∃ (a : Option Addr) (c : Nat) (bs : List UInt8), v = .slice a bs.length c ∧ Has W a (bytesV bs) := by
  obtain ⟨a, n, c, us, rfl, hl, _, _, _, hh, hx⟩ := open_rows_cell ht h
  have key : ∀ us : List (List Value), (∀ x ∈ us, ∃ m y, DataW.trod enc P W 0 (fun _ => true) true m e x = some y) → ∃ bs : List UInt8, bs.length = us.length ∧ us.flatten = bytesV bs := by
    intro us
    induction us with
    | nil => exact fun _ => ⟨[], rfl, rfl⟩
    | cons x us ih =>
      intro h
      obtain ⟨bs, h1, h2⟩ := ih (fun y hy => h y (by simp [hy]))
      obtain ⟨m, y, hy⟩ := h x (by simp)
      obtain ⟨z, rfl, _, hw⟩ := DataW.trod_int he hy
      obtain ⟨k, rfl, hk⟩ := wf_u8 hw
      refine ⟨UInt8.ofNat k :: bs, by simp [h1], ?_⟩
      have e1 : (UInt8.ofNat k).toNat = k := by simp; omega
      simp [h2, bytesV, e1]
  obtain ⟨bs, h1, h2⟩ := key us (fun x hx' => (hx x hx').2)
  exact ⟨a, c, bs, by rw [h1, hl], h2 ▸ hh⟩
theorem open_rowsC {P : Program} {W : World} {t e u : TypeId} {f : Nat} {v : Value} {y : DataW H × List MemPlace} (ht : P.underlying t = some (.slice e)) (he : P.underlying e = some (.slice u)) (hu : P.underlying u = some (.int .u8)) (hc : P.cellsOf e = 1)
    (h : DataW.trod enc P W 0 (fun _ => true) true f t [v] = some y) : ∃ (a : Option Addr) (c : Nat) (l : List (List UInt8)) (rv : List Value), v = .slice a l.length c ∧ Has W a rv ∧ rv.length = l.length ∧
      ∀ (i : Nat) (r : List UInt8), l[i]? = some r → ∃ (ai : Option Addr) (ci : Nat), rv[i]? = some (Value.slice ai r.length ci) ∧ Has W ai (bytesV r) := by
  obtain ⟨a, n, c, us, rfl, hl, _, _, _, hh, hx⟩ := open_rows_cell ht h
  have key : ∀ us : List (List Value), (∀ x ∈ us, x.length = P.cellsOf e ∧ ∃ m y, DataW.trod enc P W 0 (fun _ => true) true m e x = some y) → ∃ l : List (List UInt8), l.length = us.length ∧ us.flatten.length = l.length ∧
      ∀ (i : Nat) (r : List UInt8), l[i]? = some r → ∃ (ai : Option Addr) (ci : Nat), us.flatten[i]? = some (Value.slice ai r.length ci) ∧ Has W ai (bytesV r) := by
    intro us
    induction us with
    | nil => exact fun _ => ⟨[], rfl, rfl, fun i r hr => by simp at hr⟩
    | cons x us ih =>
      intro h
      obtain ⟨l, h1, h2, h3⟩ := ih (fun y hy => h y (by simp [hy]))
      obtain ⟨hlx, m, y, hy⟩ := h x (by simp)
      rw [hc] at hlx
      obtain ⟨x0, rfl⟩ : ∃ x0, x = [x0] := by
        match x, hlx with
        | [x0], _ => exact ⟨x0, rfl⟩
      obtain ⟨ai, ci, bs, rfl, hb⟩ := open_bytesC he hu hy
      refine ⟨bs :: l, by simp [h1], by simpa using h2, fun i r hr => ?_⟩
      match i with
      | 0 =>
        simp at hr
        subst hr
        exact ⟨ai, ci, by simp, hb⟩
      | i + 1 =>
        obtain ⟨aj, cj, q1, q2⟩ := h3 i r (by simpa using hr)
        exact ⟨aj, cj, by simpa using q1, q2⟩
  obtain ⟨l, h1, h2, h3⟩ := key us hx
  exact ⟨a, c, l, us.flatten, by rw [h1, hl], hh, h2, h3⟩
theorem open_entsC {P : Program} {W : World} {t e : TypeId} {f0 f1 f2 f3 : Field} {f : Nat} {v : Value} {y : DataW H × List MemPlace} (ht : P.underlying t = some (.slice e)) (he : P.underlying e = some (.struct #[f0, f1, f2, f3]))
    (h0 : P.underlying f0.type = some (.int .i64)) (h1 : P.underlying f1.type = some (.int .i64)) (h2 : P.underlying f2.type = some (.int .i64)) (h3 : P.underlying f3.type = some (.int .i64)) (o0 : f0.offset = 0) (o1 : f1.offset = 1) (o2 : f2.offset = 2) (o3 : f3.offset = 3)
    (c0 : P.cellsOf f0.type = 1) (c1 : P.cellsOf f1.type = 1) (c2 : P.cellsOf f2.type = 1) (c3 : P.cellsOf f3.type = 1) (ce : P.cellsOf e = 4)
    (h : DataW.trod enc P W 0 (fun _ => true) true f t [v] = some y) : ∃ (a : Option Addr) (c : Nat) (l : List (Int × Int × Int × Int)), v = .slice a l.length c ∧ Has W a (l.flatMap entC4) ∧ (a = none → c = 0) ∧ ∀ e ∈ l, wfI e.1 ∧ wfI e.2.1 ∧ wfI e.2.2.1 ∧ wfI e.2.2.2 := by
  obtain ⟨a, n, c, us, rfl, hl, _, _, hA, hh, hx⟩ := open_rows_cell ht h
  have key : ∀ us : List (List Value), (∀ x ∈ us, x.length = P.cellsOf e ∧ ∃ m y, DataW.trod enc P W 0 (fun _ => true) true m e x = some y) → ∃ l : List (Int × Int × Int × Int), l.length = us.length ∧ us.flatten = l.flatMap entC4 ∧ ∀ e ∈ l, wfI e.1 ∧ wfI e.2.1 ∧ wfI e.2.2.1 ∧ wfI e.2.2.2 := by
    intro us
    induction us with
    | nil => exact fun _ => ⟨[], rfl, rfl, fun z hz => by cases hz⟩
    | cons x us ih =>
      intro h
      obtain ⟨zs, q1, q2, q3⟩ := ih (fun y hy => h y (by simp [hy]))
      obtain ⟨hlx, m, y, hy⟩ := h x (by simp)
      obtain ⟨y0, y1, y2, y3, k, _, _, t0, t1, t2, t3⟩ := Go.Joins.trod_struct4 he hy
      rw [o0, c0] at t0
      rw [o1, c1] at t1
      rw [o2, c2] at t2
      rw [o3, c3] at t3
      obtain ⟨z0, e0, _, w0⟩ := DataW.trod_int h0 t0
      obtain ⟨z1, e1, _, w1⟩ := DataW.trod_int h1 t1
      obtain ⟨z2, e2, _, w2⟩ := DataW.trod_int h2 t2
      obtain ⟨z3, e3, _, w3⟩ := DataW.trod_int h3 t3
      rw [ce] at hlx
      have hxe : x = entC4 (z0, z1, z2, z3) := by
        match x, hlx with
        | [x0, x1, x2, x3], _ =>
          simp at e0 e1 e2 e3
          rw [e0, e1, e2, e3]
          rfl
      exact ⟨(z0, z1, z2, z3) :: zs, by simp [q1], by rw [List.flatten_cons, hxe, q2]; rfl, fun z hz => by
        rcases List.mem_cons.1 hz with rfl | hz
        · exact ⟨wf_i64 w0, wf_i64 w1, wf_i64 w2, wf_i64 w3⟩
        · exact q3 z hz⟩
  obtain ⟨l, q1, q2, q3⟩ := key us hx
  exact ⟨a, c, l, by rw [q1, hl], q2 ▸ hh, hA, q3⟩
end

open Go.RowKit Go.Lib
theorem planB_length (p : PlanL) (k room : Nat) (hk : k ≤ 2) : (planB p k room).length = 22 + room + 2 * p.cls.length + 2 * (p.rows.length * p.n) + p.ents.length * (4 + 2 * k) := by
  simp only [planB, ofB, List.length_append, beN_length, List.length_replicate, clsB_length, rowsPB_length, entsPB_length _ _ hk]
  omega
theorem numR (X Y : List UInt8) (m k s : Nat) (h : m = X.length + k) : num (X ++ Y) m s = num Y k s := by
  rw [h, ← num_dropS, List.drop_left]
theorem numL (X Y : List UInt8) (k s : Nat) (h : k + s ≤ X.length) : num (X ++ Y) k s = num X k s := by
  have := num_takeS (X ++ Y) X.length k s h
  rw [List.take_left] at this
  exact this.symm
theorem numB2 (z : Nat) (Z : List UInt8) (h : z ≤ 65535) : num (beN 2 z ++ Z) 0 2 = z := by
  rw [numL _ _ _ _ (by simp [beN_length])]
  simp [beN, num2, UInt8.toNat_ofNat']
  omega
theorem numB4 (z : Nat) (Z : List UInt8) (h : z ≤ 65535) : num (beN 4 z ++ Z) 0 4 = z := by
  rw [numL _ _ _ _ (by simp [beN_length])]
  simp [beN, num4, UInt8.toNat_ofNat']
  omega
end Go.Proofs.Ytcegoenlajkgfaa
end
section

/- The document's answer of a lookup's parts, as a function, and that it is the table's. Conditions: as each says. -/
namespace Go.Proofs.Ytcegoenlajkgfaa
open Go.RowKit Go.Lib

def inR (id : Int) (r : RP) : Bool := decide ((r.first : Int) ≤ id) && decide (id ≤ (r.last : Int))
/-- The first part that holds a glyph tells its number. -/
def refG (bs : List UInt8) (rs : List RP) (id : Int) : Nat × Bool := match rs.find? (inR id) with
  | some r => (num bs (r.at_ + (if r.own = true then r.size else 0) * (id - r.first).toNat) r.size, true)
  | none => (0, false)
theorem numsA_get (bs : List UInt8) (S k i : Nat) (h : i < k) : (numsA bs S k).getD i 0 = num bs (i * S) S := by
  simp [numsA, List.getD_eq_getElem?_getD, h]
theorem refG_tab (bs : List UInt8) (rs : List RP) (h : okR bs rs) (hr : ∀ r ∈ rs, r.last ≤ 70000 ∧ (r.size = 1 ∨ r.size = 2 ∨ r.size = 4)) (id : Int) : ∀ k, k ≤ rs.length → getL (tabR bs (rs.take k)).1 (tabR bs (rs.take k)).2 id = refG bs (rs.take k) id ∧ ((tabR bs (rs.take k)).1.find? (inP id) = none ↔ (rs.take k).find? (inR id) = none)
  | 0, _ => by rw [List.take_zero]; exact ⟨rfl, by simp [tabR]⟩
  | k + 1, hk => by
    have hx := List.getElem?_eq_getElem (show k < rs.length by omega)
    obtain ⟨ih1, ih2⟩ := refG_tab bs rs h hr id k (by omega)
    have hinv := invR_take bs rs h hr k (by omega)
    rw [tabR_take_succ hx, List.take_add_one, hx]
    generalize tabR bs (rs.take k) = s at *
    generalize rs.take k = l at *
    generalize rs[k] = r at *
    obtain ⟨ps, ns⟩ := s
    simp only [stepR, Option.toList]
    have hpr : inP id ⟨r.first, r.last, ns.length, if r.own = true then 1 else 0⟩ = inR id r := rfl
    cases hf : ps.find? (inP id) with
    | some p =>
      have hl : l.find? (inR id) ≠ none := fun hn => by
        have := ih2.2 hn
        simp only at this
        rw [hf] at this
        cases this
      obtain ⟨q, hq⟩ := Option.ne_none_iff_exists'.1 hl
      have hok := hinv.ok p (List.mem_of_find?_eq_some hf)
      have hin := List.find?_some hf
      simp only [inP, Bool.and_eq_true, decide_eq_true_eq] at hin
      have hlt : p.at_ + p.step * (id - p.first).toNat < ns.length := by
        obtain ⟨h1, h2, _⟩ := hok
        simp only at h2
        rcases h1 with h1 | h1 <;> rw [h1] at h2 ⊢ <;> omega
      constructor
      · unfold getL refG at ih1 ⊢
        simp only [List.find?_append, hf, hq, Option.some_or] at ih1 ⊢
        rw [← ih1, List.getD_eq_getElem?_getD, List.getElem?_append_left hlt, List.getD_eq_getElem?_getD]
      · simp [List.find?_append, hf, hq]
    | none =>
      have hl := ih2.1 hf
      constructor
      · unfold getL refG
        simp only [List.find?_append, hf, hl, Option.none_or, List.find?_cons, hpr]
        cases hi : inR id r with
        | false => rfl
        | true =>
          simp only [inR, Bool.and_eq_true, decide_eq_true_eq] at hi
          simp only
          congr 1
          cases ho : r.own with
          | true =>
            have hlt : (id - (r.first : Int)).toNat < r.last - r.first + 1 := by omega
            simp only [numsR, ho, if_true, Nat.one_mul]
            rw [List.getD_eq_getElem?_getD, List.getElem?_append_right (by omega), Nat.add_sub_cancel_left, ← List.getD_eq_getElem?_getD, numsA_get _ _ _ _ hlt, num_dropS, Nat.mul_comm]
          | false =>
            simp only [numsR, ho, Bool.false_eq_true, if_false, Nat.zero_mul, Nat.add_zero]
            rw [List.getD_eq_getElem?_getD, List.getElem?_append_right (by omega), Nat.sub_self]
            rfl
      · simp only [List.find?_append, hf, hl, Option.none_or, List.find?_cons, hpr]
        cases inR id r <;> simp
theorem refG_at (bs : List UInt8) (rs : List RP) (id : Int) (j : Nat) (r : RP) (hr : rs[j]? = some r) (hno : ∀ x ∈ rs.take j, inR id x = false) (hin : inR id r = true) : refG bs rs id = (num bs (r.at_ + (if r.own = true then r.size else 0) * (id - r.first).toNat) r.size, true) := by
  have h : rs.find? (inR id) = some r := by
    have e : rs = rs.take j ++ (r :: rs.drop (j + 1)) := by
      have := List.take_append_drop j rs
      obtain ⟨hj, rfl⟩ := List.getElem?_eq_some_iff.1 hr
      rw [← List.drop_eq_getElem_cons hj]
      exact this.symm
    have hn : (rs.take j).find? (inR id) = none := List.find?_eq_none.2 fun x hx => by simp [hno x hx]
    rw [e, List.find?_append, hn, Option.none_or, List.find?_cons, hin]
  unfold refG
  rw [h]
theorem refG_no (bs : List UInt8) (rs : List RP) (id : Int) (hno : ∀ x ∈ rs, inR id x = false) : refG bs rs id = (0, false) := by
  have hn : rs.find? (inR id) = none := List.find?_eq_none.2 fun x hx => by simp [hno x hx]
  unfold refG
  rw [hn]
def fitG (n : Nat) (r : RP) : Prop := r.first ≤ 70000 ∧ r.last ≤ 70000 ∧ (r.size = 1 ∨ r.size = 2 ∨ r.size = 4) ∧ r.at_ + (if r.own = true then (r.last - r.first + 1) * r.size else r.size) ≤ n
theorem fitG_at {n : Nat} {r : RP} (h : fitG n r) {id : Int} (h1 : (r.first : Int) ≤ id) (h2 : id ≤ (r.last : Int)) : r.at_ + (if r.own = true then r.size else 0) * (id - r.first).toNat + r.size ≤ n := by
  obtain ⟨_, _, _, h4⟩ := h
  have hm : ((id - (r.first : Int)).toNat + 1) * r.size ≤ (r.last - r.first + 1) * r.size := Nat.mul_le_mul_right _ (by omega)
  rw [Nat.succ_mul] at hm
  split at h4
  · rename_i ho
    rw [if_pos ho, Nat.mul_comm]
    omega
  · rename_i ho
    rw [if_neg ho, Nat.zero_mul]
    omega
end Go.Proofs.Ytcegoenlajkgfaa
end
section

/- The document's Get of a lookup. Conditions: as each says. -/
namespace Go.Proofs.Ytcegoenlajkgfaa
open Go.RowKit Go.Lib

set_option maxRecDepth 100000 in
set_option maxHeartbeats 3200000 in
theorem refget_any (a : Option Addr) (n c : Nat) (bs : List UInt8) (a' : Option Addr) (c' : Nat) (rs : List RP) (id : Int) (w : World) (h : Has w a (bytesV bs)) (hl : bs.length = n) (hn : n ≤ 100000000) (hr : Has w a' (encRs rs)) (hrl : rs.length ≤ 100000) (hf : ∀ r ∈ rs, fitG n r) (hid : -9223372036854775808 ≤ id ∧ id ≤ 9223372036854775807) :
    Calls Try.prog 32 #[.agg #[.slice a n c, .slice a' rs.length c'], .int .i64 id] w fun e w' => e = .returned (.tuple #[.int .i64 ((refG bs rs id).1 : Nat), .bool (refG bs rs id).2]) ∧ Below w.heap.size w w' := by
  have hAC := allocC
  have hAF := allocF
  have HH := Lib.hid h
  have HL := Lib.hid hl
  have HR := Lib.hid hr
  have HF := Lib.hid hf
  obtain ⟨L, hL⟩ : ∃ L, L = rs.length := ⟨_, rfl⟩
  rw [← hL] at hrl ⊢
  have HLr := Lib.hid hL
  clear h hl hr hf hL
  go_enter Try.func32, Try.ntmps32
  go_wp2_with fail
  obtain ⟨V, hV⟩ : ∃ V, V = (w.alloc (Obj.cells #[.slice a n c, .slice a' L c'] 40)) := ⟨_, rfl⟩
  have hb : Below w.heap.size w V := by rw [hV]; exact balloc (brefl w) _
  have z0 : V.heap[w.heap.size]? = some (.cells #[.slice a n c, .slice a' L c'] 40 (0, 0)) := by rw [hV, heap_push, if_pos rfl]
  rw [← hV]
  have HB := Lib.hid hb
  have Z0 := Lib.hid z0
  have hl0 := (Array.getElem?_eq_some_iff.1 z0).1
  have hwV := hb.size
  clear hV hb z0
  go_loopw [6] (fun i wr => ∃ j : Nat, j ≤ L ∧ i = .int .i64 (j : Nat) ∧ (∀ x ∈ rs.take j, inR id x = false) ∧ Below V.heap.size V wr) (fun i _ => L - (Go.RowKit.intOf i).toNat)
  case atStart => exact ⟨0, Nat.zero_le _, rfl, fun x hx => by simp at hx, brefl _⟩
  case round =>
    obtain ⟨j, hj, rfl, hno, hbr⟩ := hrel
    have HNO := Lib.hid hno
    have HBR := Lib.hid (HB.out.trans (hbr.mono hwV))
    have HBR0 := Lib.hid hbr
    have z0 := (hbr.block _ hl0).trans Z0.out
    have q0 := fun o => cell_of_heap z0 o
    have l0 := (Array.getElem?_eq_some_iff.1 z0).1
    clear hno hbr z0
    by_cases hlt : j < L
    · obtain ⟨r, hr⟩ : ∃ r, rs[j]? = some r := ⟨_, List.getElem?_eq_getElem (by rw [← HLr.out]; exact hlt)⟩
      have hfr := HF.out r (List.mem_of_getElem? hr)
      have HE := HR.out.below HBR.out
      obtain ⟨bE, oE, hbE, hblE, hcE⟩ := HE.get (by
        rcases Nat.eq_zero_or_pos (encRs rs).length with g0 | g0
        · have := encRs_get rs j r hr 0 (by omega)
          rw [List.getElem?_eq_none (by omega)] at this
          simp [encR] at this
        · exact g0)
      have e0 := hcE (j * 5) _ (encRs_get rs j r hr 0 (by omega))
      have e1 := hcE (j * 5 + 1) _ (encRs_get rs j r hr 1 (by omega))
      have e2 := hcE (j * 5 + 2) _ (encRs_get rs j r hr 2 (by omega))
      have e3 := hcE (j * 5 + 3) _ (encRs_get rs j r hr 3 (by omega))
      have e4 := hcE (j * 5 + 4) _ (encRs_get rs j r hr 4 (by omega))
      simp only [← Nat.add_assoc] at e0 e1 e2 e3 e4
      subst hbE
      clear hcE HE
      have HZ := Lib.hid (refG_at bs rs id j r hr HNO.out)
      have HT := Lib.hid (show ∀ x ∈ rs.take (j + 1), inR id r = false → inR id x = false from fun x hx hfa => by
        rw [List.take_add_one, hr] at hx
        rcases List.mem_append.1 hx with hx | hx
        · exact HNO.out x hx
        · simp at hx
          rw [hx]
          exact hfa)
      have HAT := Lib.hid (fun h1 h2 => fitG_at hfr (id := id) h1 h2)
      obtain ⟨f1, f2, f3, f4⟩ := hfr
      have hin : inR id r = (decide ((r.first : Int) ≤ id) && decide (id ≤ (r.last : Int))) := rfl
      have HIN := Lib.hid hin
      have fa : r.at_ ≤ n := by
        split at f4 <;> omega
      clear hin f4 hr
      obtain ⟨st, hst⟩ : ∃ st, st = (if r.own = true then r.size else 0) := ⟨_, rfl⟩
      have hst4 : st ≤ 4 := by rw [hst]; split <;> omega
      have hst5 : st = 0 ∨ st = 1 ∨ st = 2 ∨ st = 4 := by rw [hst]; split <;> omega
      rw [← hst] at HZ HAT e4
      clear hst
      generalize r.first = F at *
      generalize r.last = E at *
      generalize r.at_ = A at *
      generalize r.size = S at *
      have lE := cell_lt e0
      simp only at lE
      by_cases h1 : (F : Int) ≤ id
      case neg =>
        have d1 : decide ((F : Int) ≤ id) = false := by simpa using h1
        have hfa : inR id r = false := by rw [HIN.out, d1]; rfl
        have HTT := Lib.hid (fun x hx => HT.out x hx hfa)
        clear hfa h1
        go_wp2_with fail
        go_roundw
        case rel => exact ⟨j + 1, hlt, by go_num, HTT.out, HBR0.out.trans (Below.mono (show Below wr.heap.size wr _ from by exact blw) HBR0.out.size)⟩
        case measure => simp [Go.RowKit.intOf]; omega
      have d1 : decide ((F : Int) ≤ id) = true := by simpa using h1
      by_cases h2 : id ≤ (E : Int)
      case neg =>
        have d2 : decide (id ≤ (E : Int)) = false := by simpa using h2
        have hfa : inR id r = false := by rw [HIN.out, d1, d2]; rfl
        have HTT := Lib.hid (fun x hx => HT.out x hx hfa)
        clear hfa h1 h2
        go_wp2_with fail
        go_roundw
        case rel => exact ⟨j + 1, hlt, by go_num, HTT.out, HBR0.out.trans (Below.mono (show Below wr.heap.size wr _ from by exact blw) HBR0.out.size)⟩
        case measure => simp [Go.RowKit.intOf]; omega
      have d2 : decide (id ≤ (E : Int)) = true := by simpa using h2
      have hz := HZ.out (by rw [HIN.out, d1, d2]; rfl)
      have hat := HAT.out h1 h2
      obtain ⟨k, rfl⟩ : ∃ k : Nat, id = (F : Int) + (k : Nat) := ⟨(id - F).toNat, by omega⟩
      have hk : ((F : Int) + (k : Nat) - (F : Int)).toNat = k := by omega
      rw [hk] at hz hat
      have HZZ := Lib.hid hz
      have HAT2 := Lib.hid hat
      have hF3 : (F : Int) + (k : Int) - (F : Int) = (k : Int) := by omega
      have hS4 : S ≤ n := by omega
      have hS5 : S ≤ 4 := by omega
      have hk7 : k ≤ 70000 := by omega
      clear hz hk HZ HAT HT HIN f3 hat
      rcases hst5 with rfl | rfl | rfl | rfl
      · have hat := HAT2.out
        have e4 : _ = some (Value.int .i64 0) := e4
        have HU := Lib.hid (fun W (hW : Below w.heap.size w W) (z y : Int) (hz : z = (A : Int) + ((0 * k : Nat) : Int)) (hy : y = (S : Nat)) => show Calls Try.prog 43 #[.slice a n c, .int .i64 z, .int .i64 y] W fun e w' => e = .returned (.int .i64 (num bs (A + 0 * k) S : Nat)) ∧ W = w' from by subst hz hy; rw [← Int.natCast_add]; exact u_in a n c (A + 0 * k) S bs W (HH.out.below hW) HL.out hat (by omega) (by unfold maxLen; omega))
        generalize num bs (A + 0 * k) S = X at *
        clear HAT2
        go_wp2_with (first | (go_at_call 43; (with_reducible refine (HU.out _ (HBR.out.trans (Below.mono (w := wr) (by exact blw) HBR.out.size)) _ _ (by omega) rfl).mono ?_); rintro e wu ⟨rfl, rfl⟩))
        refine bodyPost_ret (v := .tuple #[.int .i64 (X : Nat), .bool true]) (by simp [results, Try.results32, go_sem]) rfl ?_
        refine ⟨?_, HBR.out.trans (Below.mono (show Below wr.heap.size wr _ from by exact blw) HBR.out.size)⟩
        rw [HZZ.out]
      · have hat := HAT2.out
        have e4 : _ = some (Value.int .i64 1) := e4
        have HU := Lib.hid (fun W (hW : Below w.heap.size w W) (z y : Int) (hz : z = (A : Int) + ((1 * k : Nat) : Int)) (hy : y = (S : Nat)) => show Calls Try.prog 43 #[.slice a n c, .int .i64 z, .int .i64 y] W fun e w' => e = .returned (.int .i64 (num bs (A + 1 * k) S : Nat)) ∧ W = w' from by subst hz hy; rw [← Int.natCast_add]; exact u_in a n c (A + 1 * k) S bs W (HH.out.below hW) HL.out hat (by omega) (by unfold maxLen; omega))
        generalize num bs (A + 1 * k) S = X at *
        clear HAT2
        go_wp2_with (first | (go_at_call 43; (with_reducible refine (HU.out _ (HBR.out.trans (Below.mono (w := wr) (by exact blw) HBR.out.size)) _ _ (by omega) rfl).mono ?_); rintro e wu ⟨rfl, rfl⟩))
        refine bodyPost_ret (v := .tuple #[.int .i64 (X : Nat), .bool true]) (by simp [results, Try.results32, go_sem]) rfl ?_
        refine ⟨?_, HBR.out.trans (Below.mono (show Below wr.heap.size wr _ from by exact blw) HBR.out.size)⟩
        rw [HZZ.out]
      · have hat := HAT2.out
        have e4 : _ = some (Value.int .i64 2) := e4
        have HU := Lib.hid (fun W (hW : Below w.heap.size w W) (z y : Int) (hz : z = (A : Int) + ((2 * k : Nat) : Int)) (hy : y = (S : Nat)) => show Calls Try.prog 43 #[.slice a n c, .int .i64 z, .int .i64 y] W fun e w' => e = .returned (.int .i64 (num bs (A + 2 * k) S : Nat)) ∧ W = w' from by subst hz hy; rw [← Int.natCast_add]; exact u_in a n c (A + 2 * k) S bs W (HH.out.below hW) HL.out hat (by omega) (by unfold maxLen; omega))
        generalize num bs (A + 2 * k) S = X at *
        clear HAT2
        go_wp2_with (first | (go_at_call 43; (with_reducible refine (HU.out _ (HBR.out.trans (Below.mono (w := wr) (by exact blw) HBR.out.size)) _ _ (by omega) rfl).mono ?_); rintro e wu ⟨rfl, rfl⟩))
        refine bodyPost_ret (v := .tuple #[.int .i64 (X : Nat), .bool true]) (by simp [results, Try.results32, go_sem]) rfl ?_
        refine ⟨?_, HBR.out.trans (Below.mono (show Below wr.heap.size wr _ from by exact blw) HBR.out.size)⟩
        rw [HZZ.out]
      · have hat := HAT2.out
        have e4 : _ = some (Value.int .i64 4) := e4
        have HU := Lib.hid (fun W (hW : Below w.heap.size w W) (z y : Int) (hz : z = (A : Int) + ((4 * k : Nat) : Int)) (hy : y = (S : Nat)) => show Calls Try.prog 43 #[.slice a n c, .int .i64 z, .int .i64 y] W fun e w' => e = .returned (.int .i64 (num bs (A + 4 * k) S : Nat)) ∧ W = w' from by subst hz hy; rw [← Int.natCast_add]; exact u_in a n c (A + 4 * k) S bs W (HH.out.below hW) HL.out hat (by omega) (by unfold maxLen; omega))
        generalize num bs (A + 4 * k) S = X at *
        clear HAT2
        go_wp2_with (first | (go_at_call 43; (with_reducible refine (HU.out _ (HBR.out.trans (Below.mono (w := wr) (by exact blw) HBR.out.size)) _ _ (by omega) rfl).mono ?_); rintro e wu ⟨rfl, rfl⟩))
        refine bodyPost_ret (v := .tuple #[.int .i64 (X : Nat), .bool true]) (by simp [results, Try.results32, go_sem]) rfl ?_
        refine ⟨?_, HBR.out.trans (Below.mono (show Below wr.heap.size wr _ from by exact blw) HBR.out.size)⟩
        rw [HZZ.out]
    · obtain rfl : L = j := by omega
      have hz := refG_no bs rs id (by have := HNO.out; rwa [List.take_of_length_le (by rw [← HLr.out]; omega)] at this)
      have HZZ := Lib.hid hz
      clear hz
      go_wp2_with fail
      refine bodyPost_ret (v := .tuple #[.int .i64 0, .bool false]) (by simp [results, Try.results32, go_sem]) rfl ?_
      exact ⟨by rw [HZZ.out]; rfl, HBR.out⟩
end Go.Proofs.Ytcegoenlajkgfaa
end
section

/- The document's Class and Step of a machine, as it is read of bytes. Conditions: as each says. -/
namespace Go.Proofs.Ytcegoenlajkgfaa
open Go.RowKit Go.Lib

theorem lk_small {bs : List UInt8} {glyphs size : Nat} {rs : List RP} (h : LkRows bs glyphs size rs) : ∀ r ∈ rs, r.own = false → r.at_ + r.size ≤ bs.length := by
  intro r hr ho
  cases h with
  | all => simp at hr; subst hr; cases ho
  | two h h0 h1 =>
    obtain ⟨i, hi, rfl⟩ := List.mem_map.1 hr
    have hi := List.mem_range.1 hi
    have hf := h1.rows
    have hs := h1.size
    have hM : skM bs 2 2 ≤ skN bs 2 := by unfold skM; split <;> omega
    have : i * skS bs 2 + skS bs 2 ≤ skN bs 2 * skS bs 2 := by rw [← Nat.succ_mul]; exact Nat.mul_le_mul_right _ (by omega)
    show 12 + i * skS bs 2 + 4 + size ≤ bs.length
    omega
  | four h h0 h1 => obtain ⟨i, hi, rfl⟩ := List.mem_map.1 hr; cases ho
  | six h h0 h1 =>
    obtain ⟨i, hi, rfl⟩ := List.mem_map.1 hr
    have hi := List.mem_range.1 hi
    have hf := h1.rows
    have hs := h1.size
    have hM : skM bs 2 1 ≤ skN bs 2 := by unfold skM; split <;> omega
    have : i * skS bs 2 + skS bs 2 ≤ skN bs 2 * skS bs 2 := by rw [← Nat.succ_mul]; exact Nat.mul_le_mul_right _ (by omega)
    show 12 + i * skS bs 2 + 2 + size ≤ bs.length
    omega
  | eight h h0 h1 => unfold rowsT at hr; split at hr <;> simp at hr; subst hr; cases ho
  | ten h h0 hu h1 => unfold rowsT at hr; split at hr <;> simp at hr; subst hr; cases ho
theorem LkOk.fitG {bs : List UInt8} {glyphs size : Nat} {rs : List RP} (h : LkOk bs glyphs size rs) (hg : glyphs ≤ 65535) (hs : size = 2 ∨ size = 4) : ∀ r ∈ rs, fitG bs.length r := by
  intro r hr
  obtain ⟨e1, e2⟩ := (h.rows.each hg hs).2 r hr
  have h3 := lk_small h.rows r hr
  obtain ⟨i, hi, rfl⟩ := List.getElem_of_mem hr
  obtain ⟨⟨c1, c2⟩, c3⟩ := h.ok i _ (List.getElem?_eq_getElem hi)
  refine ⟨by omega, e1, e2, ?_⟩
  cases ho : rs[i].own with
  | true => rw [if_pos rfl]; exact c3 ho
  | false => rw [if_neg (by simp)]; exact h3 ho
def classG (tb : List UInt8) (rs : List RP) (C : Nat) (id : Int) : Nat :=
  if id = 65535 then 2 else if (refG tb rs id).2 = true ∧ (refG tb rs id).1 < C then (refG tb rs id).1 else 1
theorem classG_M {g : Nat} (bs : List UInt8) (rs : List RP) (h : LkOk (bs.drop (num bs 4 4)) g 2 rs) (hg : g ≤ 65535) (id : Int) : classG (bs.drop (num bs 4 4)) rs (num bs 0 4) id = classM bs rs id := by
  have := (refG_tab (bs.drop (num bs 4 4)) rs h.ok (fun r hr => (h.rows.each hg (.inl rfl)).2 r hr) id rs.length (Nat.le_refl _)).1
  rw [List.take_length] at this
  unfold classG classM
  rw [this]
set_option maxRecDepth 100000 in
set_option maxHeartbeats 3200000 in
theorem refcls_any (a : Option Addr) (n c C R E S N k : Nat) (aT : Option Addr) (nT cT : Nat) (tb : List UInt8) (a' : Option Addr) (c' : Nat) (rs : List RP) (id : Int) (w : World) (h : Has w aT (bytesV tb)) (hl : tb.length = nT) (hn : nT ≤ 100000000) (hr : Has w a' (encRs rs)) (hrl : rs.length ≤ 100000) (hf : ∀ r ∈ rs, fitG nT r) (hC : C ≤ 65535) (hid : -9223372036854775808 ≤ id ∧ id ≤ 9223372036854775807) :
    Calls Try.prog 75 #[.agg (mrefA a n c C R E S N k aT nT cT a' rs.length c'), .int .i64 id] w fun e w' => e = .returned (.int .i64 (classG tb rs C id : Nat)) ∧ Below w.heap.size w w' := by
  have hAC := allocC
  have hAF := allocF
  by_cases h5 : id = 65535
  · subst h5
    unfold mrefA
    clear h hl hr hf
    go_enter Try.func75, Try.ntmps75
    go_wp2_with fail
    go_ret
    exact ⟨rfl, blw⟩
  have hne : (id == 65535) = false := by simpa using h5
  have HG := Lib.hid (fun W (hW : Below w.heap.size w W) => refget_any aT nT cT tb a' c' rs id W (h.below hW) hl hn (hr.below hW) hrl hf hid)
  have HR := Lib.hid (show classG tb rs C id = if (refG tb rs id).2 = true ∧ (refG tb rs id).1 < C then (refG tb rs id).1 else 1 from by unfold classG; rw [if_neg h5])
  clear h hl hr hf h5
  generalize classG tb rs C id = Q at *
  generalize (refG tb rs id).1 = x at *
  generalize (refG tb rs id).2 = b at *
  generalize rs.length = L at *
  unfold mrefA
  cases b with
  | false =>
    obtain rfl : Q = 1 := by have := HR.out; simpa using this
    clear HR
    go_enter Try.func75, Try.ntmps75
    go_wp2_with (first | (go_at_call 32; (with_reducible refine (HG.out _ (by exact blw)).mono ?_); rintro e w1 ⟨rfl, hb1⟩))
    go_ret
    exact ⟨rfl, blw⟩
  | true =>
    by_cases hlt : x < C
    · obtain rfl : Q = x := by have := HR.out; simpa [hlt] using this
      clear HR
      have d : decide ((Q : Int) < (C : Int)) = true := by simp; omega
      have d' : decide ((C : Int) ≤ (Q : Int)) = false := by simp; omega
      have d2 : decide (C ≤ Q) = false := by simp; omega
      go_enter Try.func75, Try.ntmps75
      go_wp2_with (first | (go_at_call 32; (with_reducible refine (HG.out _ (by exact blw)).mono ?_); rintro e w1 ⟨rfl, hb1⟩; have c1 := (hb1.cell (p := ⟨w.heap.size, 1, none⟩) (by simp)).trans (by rw [hAC, if_pos rfl]; rfl : _ = some (Value.int .i64 (C : Nat)))))
      go_ret
      exact ⟨rfl, blw⟩
    · obtain rfl : Q = 1 := by have := HR.out; simpa [hlt] using this
      clear HR
      have d : decide ((x : Int) < (C : Int)) = false := by simp; omega
      have d' : decide ((C : Int) ≤ (x : Int)) = true := by simp; omega
      have d2 : decide (C ≤ x) = true := by simp; omega
      go_enter Try.func75, Try.ntmps75
      go_wp2_with (first | (go_at_call 32; (with_reducible refine (HG.out _ (by exact blw)).mono ?_); rintro e w1 ⟨rfl, hb1⟩; have c1 := (hb1.cell (p := ⟨w.heap.size, 1, none⟩) (by simp)).trans (by rw [hAC, if_pos rfl]; rfl : _ = some (Value.int .i64 (C : Nat)))))
      go_ret
      exact ⟨rfl, blw⟩
/-- The document's machine, as a value. -/
def mrefV (a : Option Addr) (n c : Nat) (bs : List UInt8) (k : Nat) (rs : List RP) (S : Nat) (a' : Option Addr) (c' : Nat) : Array Value := mrefA a n c (num bs 0 4) (num bs 8 4) (num bs 12 4) S (needE bs S) k (adv a c (num bs 4 4)) (n - num bs 4 4) (c - num bs 4 4) a' rs.length c'
/-- What it tells of lies in memory. -/
structure MRf (a : Option Addr) (n c : Nat) (bs : List UInt8) (glyphs k : Nat) (rs : List RP) (S : Nat) (a' : Option Addr) (w : World) : Prop where
  has : Has w a (bytesV bs)
  rows : Has w a' (encRs rs)
  len : bs.length = n
  cap : n ≤ c ∧ c ≤ maxLen
  few : n ≤ 4000
  ok : MOk bs glyphs k rs S
  g2 : glyphs ≤ 65535
  k2 : k ≤ 2
theorem MRf.below {a : Option Addr} {n c : Nat} {bs : List UInt8} {glyphs k : Nat} {rs : List RP} {S : Nat} {a' : Option Addr} {w w' : World} (h : MRf a n c bs glyphs k rs S a' w) (hb : Below w.heap.size w w') : MRf a n c bs glyphs k rs S a' w' :=
  ⟨h.has.below hb, h.rows.below hb, h.len, h.cap, h.few, h.ok, h.g2, h.k2⟩
theorem cells_of {w : World} {p : Addr} {v : Value} (h : w.cell? p = some v) : ∃ cs t fz, w.heap[p.block]? = some (.cells cs t fz) := by
  unfold World.cell? at h
  split at h
  · rename_i hh
    exact ⟨_, _, _, hh⟩
  · cases h
/-- Cells that stood in a world's blocks stay where only later blocks change. -/
theorem Has.keptLt {own : Nat → Nat → Prop} {w0 w w' : World} {a : Option Addr} {xs : List Value} (h0 : Has w0 a xs) (h : Has w a xs) (hk : KeptO own w w') (hn : ∀ k t, k < w0.heap.size → ¬ own k t) : Has w' a xs := by
  intro j u hu
  obtain ⟨p, hp, hc⟩ := h j u hu
  obtain ⟨q, hq, hd⟩ := h0 j u hu
  rw [hp] at hq
  injection hq with hq
  subst hq
  obtain ⟨cs, t, fz, hh⟩ := cells_of hc
  have hb := hk.2 _ _ _ _ hh (hn _ _ (cell_lt hd))
  refine ⟨p, hp, ?_⟩
  rw [← hc]
  unfold World.cell?
  rw [hb]
theorem MRf.keptLt {own : Nat → Nat → Prop} {a : Option Addr} {n c : Nat} {bs : List UInt8} {glyphs k : Nat} {rs : List RP} {S : Nat} {a' : Option Addr} {w0 w w' : World} (h0 : MRf a n c bs glyphs k rs S a' w0) (h : MRf a n c bs glyphs k rs S a' w) (hk : KeptO own w w') (hn : ∀ k t, k < w0.heap.size → ¬ own k t) : MRf a n c bs glyphs k rs S a' w' :=
  ⟨h0.has.keptLt h.has hk hn, h0.rows.keptLt h.rows hk hn, h.len, h.cap, h.few, h.ok, h.g2, h.k2⟩
theorem MRf.cls {a : Option Addr} {n c : Nat} {bs : List UInt8} {glyphs k : Nat} {rs : List RP} {S : Nat} {a' : Option Addr} {w : World} (h : MRf a n c bs glyphs k rs S a' w) (c' : Nat) (id : Int) (hid : -9223372036854775808 ≤ id ∧ id ≤ 9223372036854775807) :
    Calls Try.prog 75 #[.agg (mrefV a n c bs k rs S a' c'), .int .i64 id] w fun e w' => e = .returned (.int .i64 (classM bs rs id : Nat)) ∧ Below w.heap.size w w' := by
  have hAD : Has w (adv a c (num bs 4 4)) (bytesV (bs.drop (num bs 4 4))) := by rw [← bytesV_drop]; exact h.has.adv c _ (by rw [bytesV_length, h.len]; exact h.cap.1)
  have hf := h.few
  have := (refcls_any a n c (num bs 0 4) (num bs 8 4) (num bs 12 4) S (needE bs S) k (adv a c (num bs 4 4)) (n - num bs 4 4) (c - num bs 4 4) (bs.drop (num bs 4 4)) a' c' rs id w hAD (by rw [List.length_drop, h.len]) (by omega) h.rows (by have := (h.ok.lk.rows.each h.g2 (.inl rfl)).1; omega) (by have := h.ok.lk.fitG h.g2 (.inl rfl); rwa [List.length_drop, h.len] at this) h.ok.cls.2 hid)
  refine this.mono ?_
  rintro e w' ⟨he, hb⟩
  exact ⟨by rw [he, classG_M bs rs h.ok.lk h.g2], hb⟩
theorem MRf.step {a : Option Addr} {n c : Nat} {bs : List UInt8} {glyphs k : Nat} {rs : List RP} {S : Nat} {a' : Option Addr} {w : World} (h : MRf a n c bs glyphs k rs S a' w) (c' : Nat) (s cl : Nat) (hs : s < S) (hc : cl < num bs 0 4) :
    Calls Try.prog 76 #[.agg (mrefV a n c bs k rs S a' c'), .int .i64 (s : Nat), .int .i64 (cl : Nat)] w fun e w' => e = .returned (.tuple #[entA (bs.drop (num bs 12 4)) k (entN bs (s * num bs 0 4 + cl)), .bool true]) ∧ Below w.heap.size w w' := by
  have hl := h.len
  have hf := h.few
  refine refstep_yes a n c bs (num bs 0 4) (num bs 8 4) (num bs 12 4) S (needE bs S) k (adv a c (num bs 4 4)) (n - num bs 4 4) (c - num bs 4 4) a' rs.length c' s cl (entN bs (s * num bs 0 4 + cl)) (by have := h.ok.s6 (by omega); omega) h.ok.cls.2 hs hc h.k2 w h.has h.len h.few (by
      have h1 := h.ok.fitS
      have h2 := h.ok.rows
      have h3 : (s + 1) * num bs 0 4 ≤ S * num bs 0 4 := Nat.mul_le_mul_right _ hs
      rw [Nat.succ_mul] at h3
      have h4 : S * (2 * num bs 0 4) = 2 * (S * num bs 0 4) := by rw [Nat.mul_left_comm]
      omega) rfl (by
      have h1 := h.ok.fitE
      have h2 := h.ok.ents
      have hin := ent_in (S := S) hs hc
      have : (entN bs (s * num bs 0 4 + cl) + 1) * (4 + 2 * k) ≤ needE bs S * (4 + 2 * k) := Nat.mul_le_mul_right _ hin
      omega)
theorem refread_yesN (a : Option Addr) (n c : Nat) (bs : List UInt8) (glyphs k : Nat) (zg zk : Int) (hzg : zg = (glyphs : Nat)) (hzk : zk = (k : Nat)) (rs : List RP) (S : Nat) (w : World) (h : Has w a (bytesV bs)) (hl : bs.length = n) (hn : n ≤ c) (hc : c ≤ maxLen) (h20 : n ≤ 4000) (hg1 : 1 ≤ glyphs) (hg2 : glyphs ≤ 65535) (hk : k ≤ 2) (hok : MOk bs glyphs k rs S) :
    Calls Try.prog 42 #[.slice a n c, .int .i64 zg, .int .i64 zk] w fun e w' => ∃ a' c', e = .returned (.tuple #[.agg (mrefV a n c bs k rs S a' c'), .bool true]) ∧ HasN w.heap.size w' a' (encRs rs) ∧ Below w.heap.size w w' := by
  refine (refM_new a n c bs glyphs k zg zk hzg hzk w h hl hn hc h20 hg1 hg2 hk).mono ?_
  rintro e w' ⟨(⟨rs', S', a', c', ho, he, hw⟩ | ⟨hno, _⟩), hb⟩
  · obtain ⟨rfl, rfl⟩ := hok.det ho
    exact ⟨a', c', he, hw, hb⟩
  · exact absurd hok (hno rs S)
theorem refread_no (a : Option Addr) (n c : Nat) (bs : List UInt8) (glyphs k : Nat) (zg zk : Int) (hzg : zg = (glyphs : Nat)) (hzk : zk = (k : Nat)) (w : World) (h : Has w a (bytesV bs)) (hl : bs.length = n) (hn : n ≤ c) (hc : c ≤ maxLen) (h20 : n ≤ 4000) (hg1 : 1 ≤ glyphs) (hg2 : glyphs ≤ 65535) (hk : k ≤ 2) (hno : ∀ rs S, ¬ MOk bs glyphs k rs S) :
    Calls Try.prog 42 #[.slice a n c, .int .i64 zg, .int .i64 zk] w fun e w' => e = .returned (.tuple #[zeroMV, .bool false]) ∧ Below w.heap.size w w' := by
  refine (refM_new a n c bs glyphs k zg zk hzg hzk w h hl hn hc h20 hg1 hg2 hk).mono ?_
  rintro e w' ⟨(⟨rs', S', a', c', ho, _⟩ | ⟨_, he⟩), hb⟩
  · exact absurd ho (hno rs' S')
  · exact ⟨he, hb⟩
end Go.Proofs.Ytcegoenlajkgfaa
end
