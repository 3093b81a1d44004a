
/- The reference's parts of layer 6: segments. Conditions: no more than 2000 bytes. The reference's parts of layer 6: segments whose glyphs have numbers of their own. Conditions: no more than 2000 bytes. The reference's parts of layer 6: those of a row of numbers. Conditions: no more than 2000 bytes. The reference's parts of layer 6, whatever the form. Conditions: no more than 2000 bytes; a font's glyphs, numbers of two or four bytes. The reference's parts of layer 6 of the forms 6 and 10, all forms, and the reference's Read. Conditions: no more than 2000 bytes; a font's glyphs, numbers of two or four bytes. The reference's Read of layer 6. Conditions: no more than 2000 bytes; a font's glyphs, numbers of two or four bytes. -/
import Derived.Test.YthjnpfhcjacibaaSRef
import Derived.Test.YthjnpfhcjacibaaLSpeak
namespace Go.Proofs.Ythjnpfhcjacibaa
open Go.RowKit Go.Lib

def encR (r : RP) : List Value := [.int .i64 (r.first : Nat), .int .i64 (r.last : Nat), .int .i64 (r.at_ : Nat), .int .i64 (r.size : Nat), .int .i64 ((if r.own = true then r.size else 0 : Nat) : Int)]
def encRs (rs : List RP) : List Value := rs.flatMap encR
theorem encRs_snoc (rs : List RP) (r : RP) : encRs rs ++ encR r = encRs (rs ++ [r]) := by simp [encRs]
theorem encRs_length (rs : List RP) : (encRs rs).length = rs.length * 5 := by
  induction rs with
  | nil => rfl
  | cons r rs ih => simp only [encRs, List.flatMap_cons, List.length_append] at *; rw [ih]; simp [encR]; omega
theorem encRs_get : ∀ (rs : List RP) (i : Nat) (r : RP), rs[i]? = some r → ∀ j, j < 5 → (encRs rs)[i * 5 + j]? = (encR r)[j]?
  | [], i, r, h, _, _ => by simp at h
  | q :: rs, 0, r, h, j, hj => by
    simp at h
    subst h
    show (encR q ++ encRs rs)[0 * 5 + j]? = _
    rw [List.getElem?_append_left (by simp [encR]; omega)]
    simp
  | q :: rs, i + 1, r, h, j, hj => by
    show (encR q ++ encRs rs)[(i + 1) * 5 + j]? = _
    rw [List.getElem?_append_right (by simp [encR]; omega), ← encRs_get rs i r (by simpa using h) j hj]
    congr 1
    simp [encR]
    omega
/-- Cells that stand in a block that isn't old. -/
def HasN (B : Nat) (w : World) (a : Option Addr) (xs : List Value) : Prop := Has w a xs ∧ (xs ≠ [] → ∀ p, a = some p → B ≤ p.block)
theorem hasN_nil {B : Nat} {w : World} {a : Option Addr} : HasN B w a (encRs []) := ⟨fun j u hu => (by simp [encRs] at hu), fun hne => absurd rfl hne⟩
theorem hasN_of_owns {w : World} {B base e size n m c : Nat} {a : Option Addr} {xs : List Value} (h : w.ownsRow base e size (.slice a m c) n xs) (hB : B ≤ base) : HasN B w a xs := by
  refine ⟨has_of_owns h, fun hne p hp => ?_⟩
  rcases h.2 with ⟨hv, rfl⟩ | ⟨g, cap, cur, hv, hg, _⟩
  · exact absurd (List.eq_nil_of_length_eq_zero (by simpa using h.1)) hne
  · injection hv with h1 h2 h3
    rw [hp] at h1
    cases h1
    exact Nat.le_trans hB hg
theorem hasN_alloc (w : World) (cs : Array Value) (t : TypeId) : HasN w.heap.size (w.alloc (.cells cs t)) (some ⟨w.heap.size, 0, none⟩) cs.toList := ⟨has_alloc w cs t, fun _ p hp => by cases hp; exact Nat.le_refl _⟩
def PartsRes (P : List RP → Bool → Prop) (w : World) (e : Ending) (w' : World) : Prop :=
  (∃ (rs : List RP) (okb : Bool) (a' : Option Addr) (c' : Nat), e = .returned (.tuple #[.slice a' rs.length c', .bool okb]) ∧ HasN w.heap.size w' a' (encRs rs) ∧ rs.length ≤ c' ∧ c' ≤ maxLen ∧ rs.length ≤ 65535 ∧ P rs okb) ∧ Below w.heap.size w w'
/-- The numbers that a part tells of are there, whatever its first and last are. -/
def fitZ (n : Nat) (r : RP) : Prop := fitK n 2 (r.at_ : Int) ((r.last : Int) - (r.first : Int) + 1) (r.size : Int)
/-- What trimmed answers: its parts, and whether there are such. -/
def TrimZ (bs : List UInt8) (at_ S : Nat) : Prop := at_ + 4 ≤ bs.length ∧ num bs at_ 2 + num bs (at_ + 2) 2 ≤ 65536 ∧ num bs (at_ + 2) 2 * S ≤ bs.length - (at_ + 4)
theorem fitK2 (n k m s : Nat) (hs : 1 ≤ s) : fitK n 2 (k : Int) (m : Int) (s : Int) ↔ k ≤ n ∧ m * s ≤ n - k := by
  unfold fitK
  simp only [Int.toNat_natCast]
  constructor
  · rintro ⟨_, h1, _, _, h2 | h2⟩
    · omega
    · exact ⟨by omega, (Nat.le_div_iff_mul_le (by omega)).1 h2⟩
  · rintro ⟨h1, h2⟩
    exact ⟨by omega, by omega, by omega, by omega, .inr ((Nat.le_div_iff_mul_le (by omega)).2 h2)⟩
def PartsP (bs : List UInt8) (n glyphs size : Nat) (rs : List RP) (okb : Bool) : Prop :=
  (okb = true → LkRows bs glyphs size rs ∧ ∀ r ∈ rs, r.own = true → fitZ n r) ∧ (okb = false → ∀ rs', ¬ LkOk bs glyphs size rs')
theorem fitZ_iff (n : Nat) (r : RP) (hs : 1 ≤ r.size) (hf : r.first ≤ r.last) : fitZ n r ↔ r.at_ ≤ n ∧ (r.last - r.first + 1) * r.size ≤ n - r.at_ := by
  unfold fitZ
  rw [show (r.last : Int) - (r.first : Int) + 1 = ((r.last - r.first + 1 : Nat) : Int) by omega]
  exact fitK2 n _ _ _ hs
theorem fitR_fitZ {bs : List UInt8} {ps : List PartL} {r : RP} (hs : 1 ≤ r.size) (h : fitR bs ps r) (ho : r.own = true) : fitZ bs.length r := by
  have h1 := h.1.1
  have h2 := h.2 ho
  have hle : r.size ≤ (r.last - r.first + 1) * r.size := Nat.le_mul_of_pos_left _ (by omega)
  exact (fitZ_iff _ _ hs (by omega)).2 ⟨by omega, by omega⟩
theorem LkOk.fits {bs : List UInt8} {glyphs size : Nat} {rs : List RP} (h : LkOk bs glyphs size rs) (hg : glyphs ≤ 65535) (hs : size = 2 ∨ size = 4) {r : RP} (hr : r ∈ rs) (ho : r.own = true) : fitZ bs.length r := by
  obtain ⟨i, hi, rfl⟩ := List.getElem_of_mem hr
  have := (h.rows.each hg hs).2 _ (List.getElem_mem hi)
  exact fitR_fitZ (by omega) (h.ok i _ (List.getElem?_eq_getElem hi)) ho
theorem trimZ_lk (bs : List UInt8) (at_ S : Nat) : TrimZ bs at_ S ↔ at_ + 4 ≤ bs.length ∧ num bs at_ 2 + num bs (at_ + 2) 2 ≤ 65536 ∧ okR bs (rowsT (num bs at_ 2) (num bs (at_ + 2) 2) (at_ + 4) S) := by
  unfold TrimZ
  constructor
  · rintro ⟨h1, h2, h3⟩; exact ⟨h1, h2, (ok_rowsT _ _ _ _ _ h1).2 h3⟩
  · rintro ⟨h1, h2, h3⟩; exact ⟨h1, h2, (ok_rowsT _ _ _ _ _ h1).1 h3⟩
theorem trimZ_fits {bs : List UInt8} {at_ S : Nat} (hS : 1 ≤ S) (h : TrimZ bs at_ S) : ∀ r ∈ rowsT (num bs at_ 2) (num bs (at_ + 2) 2) (at_ + 4) S, r.own = true → fitZ bs.length r := by
  obtain ⟨h1, h2, h3⟩ := (trimZ_lk bs at_ S).1 h
  intro r hr ho
  obtain ⟨i, hi, rfl⟩ := List.getElem_of_mem hr
  have hs : 1 ≤ ((rowsT (num bs at_ 2) (num bs (at_ + 2) 2) (at_ + 4) S)[i]).size := by
    have := List.getElem_mem hi
    generalize (rowsT (num bs at_ 2) (num bs (at_ + 2) 2) (at_ + 4) S)[i] = x at *
    unfold rowsT at this
    split at this
    · cases this
    · simp at this; subst this; exact hS
  exact fitR_fitZ hs (h3 i _ (List.getElem?_eq_getElem hi)) ho
theorem tabR_lasts (bs : List UInt8) (rs : List RP) : (tabR bs rs).1.map PartL.last = rs.map RP.last := by
  suffices h : ∀ (rs : List RP) (s : List PartL × List Nat), (rs.foldl (stepR bs) s).1.map PartL.last = s.1.map PartL.last ++ rs.map RP.last by simpa [tabR] using h rs ([], [])
  intro rs
  induction rs with
  | nil => intro s; simp
  | cons r rs ih => intro s; simp only [List.foldl_cons, ih, stepR, List.map_append, List.map_cons, List.map_nil, List.append_assoc, List.cons_append, List.nil_append]
def goodR (rs : List RP) (i : Nat) : Prop := ∀ r, rs[i]? = some r → r.first ≤ r.last ∧ ∀ q, 0 < i → rs[i - 1]? = some q → q.last < r.first
theorem canAdd_good (bs : List UInt8) (rs : List RP) (i : Nat) (r : RP) (hr : rs[i]? = some r) : CanAdd (tabR bs (rs.take i)).1 (r.first : Nat) (r.last : Nat) ↔ r.first ≤ r.last ∧ ∀ q, 0 < i → rs[i - 1]? = some q → q.last < r.first := by
  have hil := (List.getElem?_eq_some_iff.1 hr).1
  have hlen : (tabR bs (rs.take i)).1.length = i := by rw [tabR_len, List.length_take]; omega
  have hls := tabR_lasts bs (rs.take i)
  have hget : ∀ j, j < i → ((tabR bs (rs.take i)).1[j]?).map PartL.last = (rs[j]?).map RP.last := fun j hj => by
    rw [← List.getElem?_map, hls, List.getElem?_map, List.getElem?_take, if_pos hj]
  unfold CanAdd
  rw [hlen]
  constructor
  · rintro ⟨h1, h2⟩
    refine ⟨by omega, fun q hi hq => ?_⟩
    have hg := hget (i - 1) (by omega)
    rw [hq] at hg
    obtain ⟨p, hp⟩ : ∃ p, (tabR bs (rs.take i)).1[i - 1]? = some p := ⟨_, List.getElem?_eq_getElem (by omega)⟩
    have := h2 p hp
    rw [hp] at hg
    simp at hg
    omega
  · rintro ⟨h1, h2⟩
    refine ⟨by omega, fun p hp => ?_⟩
    have hpi := (List.getElem?_eq_some_iff.1 hp).1
    rw [hlen] at hpi
    have hg := hget (i - 1) (by omega)
    rw [hp] at hg
    obtain ⟨q, hq⟩ : ∃ q, rs[i - 1]? = some q := ⟨_, List.getElem?_eq_getElem (by omega)⟩
    have := h2 q (by omega) hq
    rw [hq] at hg
    simp at hg
    omega
theorem okR_good (bs : List UInt8) (rs : List RP) (hs : ∀ r ∈ rs, 1 ≤ r.size) : okR bs rs ↔ (∀ i, i < rs.length → goodR rs i) ∧ ∀ r ∈ rs, r.own = true → fitZ bs.length r := by
  constructor
  · intro h
    refine ⟨fun i _ r hr => (canAdd_good bs rs i r hr).1 (h i r hr).1, fun r hr ho => ?_⟩
    obtain ⟨i, hi, rfl⟩ := List.getElem_of_mem hr
    exact fitR_fitZ (hs _ hr) (h i _ (List.getElem?_eq_getElem hi)) ho
  · rintro ⟨h1, h2⟩ i r hr
    have hg := h1 i (List.getElem?_eq_some_iff.1 hr).1 r hr
    have hm := List.mem_of_getElem? hr
    refine ⟨(canAdd_good bs rs i r hr).2 hg, fun ho => ?_⟩
    have := (fitZ_iff _ _ (hs r hm) hg.1).1 (h2 r hm ho)
    omega
def RefReadIs (a : Option Addr) (n c : Nat) (bs : List UInt8) (glyphs size : Nat) (w : World) (e : Ending) (w' : World) : Prop :=
  ((∃ (rs : List RP) (a' : Option Addr) (c' : Nat), LkOk bs glyphs size rs ∧ e = .returned (.tuple #[.agg #[.slice a n c, .slice a' rs.length c'], .bool true]) ∧ Has w' a' (encRs rs) ∧ rs.length ≤ c' ∧ c' ≤ maxLen ∧ rs.length ≤ 65535) ∨
   ((∀ rs, ¬ LkOk bs glyphs size rs) ∧ e = .returned (.tuple #[.agg #[.slice none 0 0, .slice none 0 0], .bool false]))) ∧ Below w.heap.size w w'
def RefReadN (a : Option Addr) (n c : Nat) (bs : List UInt8) (glyphs size : Nat) (w : World) (e : Ending) (w' : World) : Prop :=
  ((∃ (rs : List RP) (a' : Option Addr) (c' : Nat), LkOk bs glyphs size rs ∧ e = .returned (.tuple #[.agg #[.slice a n c, .slice a' rs.length c'], .bool true]) ∧ HasN w.heap.size w' a' (encRs rs) ∧ rs.length ≤ c' ∧ c' ≤ maxLen ∧ rs.length ≤ 65535) ∨
   ((∀ rs, ¬ LkOk bs glyphs size rs) ∧ e = .returned (.tuple #[.agg #[.slice none 0 0, .slice none 0 0], .bool false]))) ∧ Below w.heap.size w w'
theorem rs_cells {w : World} {a : Option Addr} {rs : List RP} (h : Has w a (encRs rs)) {k : Nat} (hk : k < rs.length) : ∃ p, a = some p ∧ w.cell? (p.add (k * 5)) = some (.int .i64 ((rs.getD k ⟨0, 0, 0, 0, false⟩).first : Nat)) ∧ w.cell? (p.add (k * 5 + 1)) = some (.int .i64 ((rs.getD k ⟨0, 0, 0, 0, false⟩).last : Nat)) := by
  have hx := List.getElem?_eq_getElem hk
  have e : rs.getD k ⟨0, 0, 0, 0, false⟩ = rs[k] := by rw [List.getD_eq_getElem?_getD, hx]; rfl
  rw [e]
  have g0 := encRs_get rs k _ hx 0 (by omega)
  have g1 := encRs_get rs k _ hx 1 (by omega)
  obtain ⟨p, hp, c0⟩ := h _ _ g0
  obtain ⟨q, hq, c1⟩ := h _ _ g1
  rw [hp] at hq
  cases hq
  exact ⟨p, hp, c0, c1⟩
theorem add_next (p : Addr) (m : Nat) : (⟨(p.add m).block, (p.add m).off + 1, none⟩ : Addr) = p.add (m + 1) := by
  obtain ⟨b, o, s⟩ := p
  simp only [Addr.add]
  by_cases h : m = 0
  · subst h; simp
  · simp [h, Nat.add_assoc]
theorem has_set {w : World} {a : Option Addr} {xs : List Value} (h : Has w a xs) {g o : Nat} (hne : xs ≠ [] → ∀ p, a = some p → p.block ≠ g) (v : Value) : Has (w.setCell ⟨g, o, none⟩ v) a xs := by
  intro j u hu
  obtain ⟨p, hp, hc⟩ := h j u hu
  refine ⟨p, hp, ?_⟩
  rw [World.cell?_of_block (w := w) (set_heap_other v (by rw [add_block]; exact hne (by rintro rfl; simp at hu) p hp))]
  exact hc
theorem encRs_apart {w : World} {a : Option Addr} {rs : List RP} (h : Has w a (encRs rs)) {g : Nat} {v1 v2 : Value} {t : Nat} (hg : w.heap[g]? = some (.cells #[v1, v2] t (0, 0))) (h1 : ∀ z, v1 ≠ .int .i64 z) (h2 : ∀ z, v2 ≠ .int .i64 z) : encRs rs ≠ [] → ∀ p, a = some p → p.block ≠ g := by
  intro hne p hp hb
  obtain ⟨r, hr⟩ : ∃ r, rs[0]? = some r := by
    cases rs with
    | nil => exact absurd rfl hne
    | cons r rs => exact ⟨r, rfl⟩
  obtain ⟨q, hq, hc⟩ := h _ _ (encRs_get rs 0 r hr 1 (by omega))
  rw [hp] at hq
  cases hq
  have e : p.add (0 * 5 + 1) = ⟨g, p.off + 1, none⟩ := by rw [← hb]; simp [Addr.add]
  rw [e] at hc
  have hx := cell_of_heap hg (p.off + 1)
  rw [hx] at hc
  match hoff : p.off + 1, hc with
  | 0, hc => omega
  | 1, hc => simp at hc; exact h2 _ hc
  | n + 2, hc => simp at hc
end Go.Proofs.Ythjnpfhcjacibaa
