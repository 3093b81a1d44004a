/- Joined from: MPlan MRefG MRefT MRefC. -/
import Derived.ChangeSame
import Derived.Test.YtbicnkopmamnpaaJ14
import Derived.Test.YtbicnkopmamnpaaJ01
import Derived.Test.YtbicnkopmamnpaaJ08
import Derived.Test.YtbicnkopmamnpaaJ09
section

/- What an argument that is a plan is; the contract of small; numbers of a plan's bytes. Conditions: as each says. -/
namespace Go.Proofs.Ytbicnkopmamnpaa
section
open Go.ChangeShapes Go.WideShapes Go.ChangeAt Go.RowKit
variable {H : Type} {enc : TypeId × Value → H}
theorem open_bytesC {P : Program} {W : World} {t e : TypeId} {f : Nat} {v : Value} {y : DataW H × List MemPlace} (ht : P.underlying t = some (.slice e)) (he : P.underlying e = some (.int .u8))
    (h : DataW.trod enc P W 0 (fun _ => true) true f t [v] = some y) : ∃ (a : Option Addr) (c : Nat) (bs : List UInt8), v = .slice a bs.length c ∧ Has W a (bytesV bs) := by
  obtain ⟨a, n, c, us, rfl, hl, _, _, _, hh, hx⟩ := open_rows_cell ht h
  have key : ∀ us : List (List Value), (∀ x ∈ us, ∃ m y, DataW.trod enc P W 0 (fun _ => true) true m e x = some y) → ∃ bs : List UInt8, bs.length = us.length ∧ us.flatten = bytesV bs := by
    intro us
    induction us with
    | nil => exact fun _ => ⟨[], rfl, rfl⟩
    | cons x us ih =>
      intro h
      obtain ⟨bs, h1, h2⟩ := ih (fun y hy => h y (by simp [hy]))
      obtain ⟨m, y, hy⟩ := h x (by simp)
      obtain ⟨z, rfl, _, hw⟩ := DataW.trod_int he hy
      obtain ⟨k, rfl, hk⟩ := wf_u8 hw
      refine ⟨UInt8.ofNat k :: bs, by simp [h1], ?_⟩
      have e1 : (UInt8.ofNat k).toNat = k := by simp; omega
      simp [h2, bytesV, e1]
  obtain ⟨bs, h1, h2⟩ := key us (fun x hx' => (hx x hx').2)
  exact ⟨a, c, bs, by rw [h1, hl], h2 ▸ hh⟩
theorem open_rowsC {P : Program} {W : World} {t e u : TypeId} {f : Nat} {v : Value} {y : DataW H × List MemPlace} (ht : P.underlying t = some (.slice e)) (he : P.underlying e = some (.slice u)) (hu : P.underlying u = some (.int .u8)) (hc : P.cellsOf e = 1)
    (h : DataW.trod enc P W 0 (fun _ => true) true f t [v] = some y) : ∃ (a : Option Addr) (c : Nat) (l : List (List UInt8)) (rv : List Value), v = .slice a l.length c ∧ Has W a rv ∧ rv.length = l.length ∧
      ∀ (i : Nat) (r : List UInt8), l[i]? = some r → ∃ (ai : Option Addr) (ci : Nat), rv[i]? = some (Value.slice ai r.length ci) ∧ Has W ai (bytesV r) := by
  obtain ⟨a, n, c, us, rfl, hl, _, _, _, hh, hx⟩ := open_rows_cell ht h
  have key : ∀ us : List (List Value), (∀ x ∈ us, x.length = P.cellsOf e ∧ ∃ m y, DataW.trod enc P W 0 (fun _ => true) true m e x = some y) → ∃ l : List (List UInt8), l.length = us.length ∧ us.flatten.length = l.length ∧
      ∀ (i : Nat) (r : List UInt8), l[i]? = some r → ∃ (ai : Option Addr) (ci : Nat), us.flatten[i]? = some (Value.slice ai r.length ci) ∧ Has W ai (bytesV r) := by
    intro us
    induction us with
    | nil => exact fun _ => ⟨[], rfl, rfl, fun i r hr => by simp at hr⟩
    | cons x us ih =>
      intro h
      obtain ⟨l, h1, h2, h3⟩ := ih (fun y hy => h y (by simp [hy]))
      obtain ⟨hlx, m, y, hy⟩ := h x (by simp)
      rw [hc] at hlx
      obtain ⟨x0, rfl⟩ : ∃ x0, x = [x0] := by
        match x, hlx with
        | [x0], _ => exact ⟨x0, rfl⟩
      obtain ⟨ai, ci, bs, rfl, hb⟩ := open_bytesC he hu hy
      refine ⟨bs :: l, by simp [h1], by simpa using h2, fun i r hr => ?_⟩
      match i with
      | 0 =>
        simp at hr
        subst hr
        exact ⟨ai, ci, by simp, hb⟩
      | i + 1 =>
        obtain ⟨aj, cj, q1, q2⟩ := h3 i r (by simpa using hr)
        exact ⟨aj, cj, by simpa using q1, q2⟩
  obtain ⟨l, h1, h2, h3⟩ := key us hx
  exact ⟨a, c, l, us.flatten, by rw [h1, hl], hh, h2, h3⟩
theorem open_entsC {P : Program} {W : World} {t e : TypeId} {f0 f1 f2 f3 : Field} {f : Nat} {v : Value} {y : DataW H × List MemPlace} (ht : P.underlying t = some (.slice e)) (he : P.underlying e = some (.struct #[f0, f1, f2, f3]))
    (h0 : P.underlying f0.type = some (.int .i64)) (h1 : P.underlying f1.type = some (.int .i64)) (h2 : P.underlying f2.type = some (.int .i64)) (h3 : P.underlying f3.type = some (.int .i64)) (o0 : f0.offset = 0) (o1 : f1.offset = 1) (o2 : f2.offset = 2) (o3 : f3.offset = 3)
    (c0 : P.cellsOf f0.type = 1) (c1 : P.cellsOf f1.type = 1) (c2 : P.cellsOf f2.type = 1) (c3 : P.cellsOf f3.type = 1) (ce : P.cellsOf e = 4)
    (h : DataW.trod enc P W 0 (fun _ => true) true f t [v] = some y) : ∃ (a : Option Addr) (c : Nat) (l : List (Int × Int × Int × Int)), v = .slice a l.length c ∧ Has W a (l.flatMap entC4) ∧ (a = none → c = 0) ∧ ∀ e ∈ l, wfI e.1 ∧ wfI e.2.1 ∧ wfI e.2.2.1 ∧ wfI e.2.2.2 := by
  obtain ⟨a, n, c, us, rfl, hl, _, _, hA, hh, hx⟩ := open_rows_cell ht h
  have key : ∀ us : List (List Value), (∀ x ∈ us, x.length = P.cellsOf e ∧ ∃ m y, DataW.trod enc P W 0 (fun _ => true) true m e x = some y) → ∃ l : List (Int × Int × Int × Int), l.length = us.length ∧ us.flatten = l.flatMap entC4 ∧ ∀ e ∈ l, wfI e.1 ∧ wfI e.2.1 ∧ wfI e.2.2.1 ∧ wfI e.2.2.2 := by
    intro us
    induction us with
    | nil => exact fun _ => ⟨[], rfl, rfl, fun z hz => by cases hz⟩
    | cons x us ih =>
      intro h
      obtain ⟨zs, q1, q2, q3⟩ := ih (fun y hy => h y (by simp [hy]))
      obtain ⟨hlx, m, y, hy⟩ := h x (by simp)
      obtain ⟨y0, y1, y2, y3, k, _, _, t0, t1, t2, t3⟩ := Go.Joins.trod_struct4 he hy
      rw [o0, c0] at t0
      rw [o1, c1] at t1
      rw [o2, c2] at t2
      rw [o3, c3] at t3
      obtain ⟨z0, e0, _, w0⟩ := DataW.trod_int h0 t0
      obtain ⟨z1, e1, _, w1⟩ := DataW.trod_int h1 t1
      obtain ⟨z2, e2, _, w2⟩ := DataW.trod_int h2 t2
      obtain ⟨z3, e3, _, w3⟩ := DataW.trod_int h3 t3
      rw [ce] at hlx
      have hxe : x = entC4 (z0, z1, z2, z3) := by
        match x, hlx with
        | [x0, x1, x2, x3], _ =>
          simp at e0 e1 e2 e3
          rw [e0, e1, e2, e3]
          rfl
      exact ⟨(z0, z1, z2, z3) :: zs, by simp [q1], by rw [List.flatten_cons, hxe, q2]; rfl, fun z hz => by
        rcases List.mem_cons.1 hz with rfl | hz
        · exact ⟨wf_i64 w0, wf_i64 w1, wf_i64 w2, wf_i64 w3⟩
        · exact q3 z hz⟩
  obtain ⟨l, q1, q2, q3⟩ := key us hx
  exact ⟨a, c, l, by rw [q1, hl], q2 ▸ hh, hA, q3⟩
end

open Go.RowKit Go.Lib
theorem planB_length (p : PlanL) (k room : Nat) (hk : k ≤ 2) : (planB p k room).length = 22 + room + 2 * p.cls.length + 2 * (p.rows.length * p.n) + p.ents.length * (4 + 2 * k) := by
  simp only [planB, ofB, List.length_append, beN_length, List.length_replicate, clsB_length, rowsPB_length, entsPB_length _ _ hk]
  omega
theorem numR (X Y : List UInt8) (m k s : Nat) (h : m = X.length + k) : num (X ++ Y) m s = num Y k s := by
  rw [h, ← num_dropS, List.drop_left]
theorem numL (X Y : List UInt8) (k s : Nat) (h : k + s ≤ X.length) : num (X ++ Y) k s = num X k s := by
  have := num_takeS (X ++ Y) X.length k s h
  rw [List.take_left] at this
  exact this.symm
theorem numB2 (z : Nat) (Z : List UInt8) (h : z ≤ 65535) : num (beN 2 z ++ Z) 0 2 = z := by
  rw [numL _ _ _ _ (by simp [beN_length])]
  simp [beN, num2, UInt8.toNat_ofNat']
  omega
theorem numB4 (z : Nat) (Z : List UInt8) (h : z ≤ 65535) : num (beN 4 z ++ Z) 0 4 = z := by
  rw [numL _ _ _ _ (by simp [beN_length])]
  simp [beN, num4, UInt8.toNat_ofNat']
  omega
end Go.Proofs.Ytbicnkopmamnpaa
end
section

/- The document's answer of a lookup's parts, as a function, and that it is the table's. Conditions: as each says. -/
namespace Go.Proofs.Ytbicnkopmamnpaa
open Go.RowKit Go.Lib

end Go.Proofs.Ytbicnkopmamnpaa
end
section

/- The document's Get of a lookup. Conditions: as each says. -/
namespace Go.Proofs.Ytbicnkopmamnpaa
open Go.RowKit Go.Lib

end Go.Proofs.Ytbicnkopmamnpaa
end
section

/- The document's Class and Step of a machine, as it is read of bytes. Conditions: as each says. -/
namespace Go.Proofs.Ytbicnkopmamnpaa
open Go.RowKit Go.Lib

/-- The document's machine, as a value. -/
def mrefV (a : Option Addr) (n c : Nat) (bs : List UInt8) (k : Nat) (rs : List RP) (S : Nat) (a' : Option Addr) (c' : Nat) : Array Value := mrefA a n c (num bs 0 4) (num bs 8 4) (num bs 12 4) S (needE bs S) k (adv a c (num bs 4 4)) (n - num bs 4 4) (c - num bs 4 4) a' rs.length c'
theorem refread_yesN (a : Option Addr) (n c : Nat) (bs : List UInt8) (glyphs k : Nat) (zg zk : Int) (hzg : zg = (glyphs : Nat)) (hzk : zk = (k : Nat)) (rs : List RP) (S : Nat) (w : World) (h : Has w a (bytesV bs)) (hl : bs.length = n) (hn : n ≤ c) (hc : c ≤ maxLen) (h20 : n ≤ 4000) (hg1 : 1 ≤ glyphs) (hg2 : glyphs ≤ 65535) (hk : k ≤ 2) (hok : MOk bs glyphs k rs S) :
    Calls Try.prog 68 #[.slice a n c, .int .i64 zg, .int .i64 zk] w fun e w' => ∃ a' c', e = .returned (.tuple #[.agg (mrefV a n c bs k rs S a' c'), .bool true]) ∧ HasN w.heap.size w' a' (encRs rs) ∧ Below w.heap.size w w' := by
  refine (refM_new a n c bs glyphs k zg zk hzg hzk w h hl hn hc h20 hg1 hg2 hk).mono ?_
  rintro e w' ⟨(⟨rs', S', a', c', ho, he, hw⟩ | ⟨hno, _⟩), hb⟩
  · obtain ⟨rfl, rfl⟩ := hok.det ho
    exact ⟨a', c', he, hw, hb⟩
  · exact absurd hok (hno rs S)
end Go.Proofs.Ytbicnkopmamnpaa
end
