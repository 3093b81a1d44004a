
/- What a font of Plain's parts says: its three numbers, just if they may be. Condition: numbers of two bytes. -/
import Derived.Test.YthacabmnnpibkaaPlain
import Derived.Test.YthacabmnnpibkaaFaceR
namespace Go.Proofs.Ythacabmnnpibkaa
open Go.RowKit Go.Lib

/-- A font's table by a part that it was made of. -/
theorem font_tab {rs : List PartV} (hf : fine rs) (hr : Rises rs) (hb : ∀ p ∈ rs, p.bs.length = p.n) (hsz : 12 + 16 * rs.length + tot rs < 4294967296) {p : PartV} (hp : p ∈ rs) :
    ∃ i, tagFound (font rs) p.tag.toList i ∧ lenAt (font rs) i = p.n ∧ tabB (font rs) i = p.bs := by
  obtain ⟨h1, h2, h3⟩ := font_is hf hr hb hsz
  obtain ⟨i, hi⟩ := List.getElem?_of_mem hp
  obtain ⟨t1, t2, t3⟩ := h3 i p hi
  have h4 : ∀ p ∈ rs, p.tag.size = 4 := fun p hp => by
    obtain ⟨i, hi⟩ := List.getElem?_of_mem hp
    exact (hf.1 i (List.getElem?_eq_some_iff.1 hi).1 p hi).1
  exact ⟨i, ⟨h1, by rw [h2]; exact (List.getElem?_eq_some_iff.1 hi).1, by rw [t1, ByteArray.toList_eq]⟩, t3, by rw [tabB, t2, t3]; exact font_data h4 hb hi⟩
/-- No table by a tag that no part has. -/
theorem font_no {rs : List PartV} (hf : fine rs) (hr : Rises rs) (hb : ∀ p ∈ rs, p.bs.length = p.n) (hsz : 12 + 16 * rs.length + tot rs < 4294967296) {t : List UInt8} (ht : ∀ p ∈ rs, tagOf p ≠ t) (i : Nat) : ¬ tagFound (font rs) t i := fun h => by
  obtain ⟨h1, h2, h3⟩ := font_is hf hr hb hsz
  have hi := h.2.1
  rw [h2] at hi
  exact ht _ (List.getElem_mem hi) (by rw [← h.2.2, (h3 i _ (List.getElem?_eq_getElem hi)).1]; rfl)
theorem n_maxp (g : Nat) (h : g ≤ 65535) : num (maxpB g) 0 4 = 65536 ∧ num (maxpB g) 4 2 = g := by
  rw [num4, num2]
  simp [maxpB, be4, be2, UInt8.toNat_ofNat']
  omega
theorem n_head (e : Nat) (h : e ≤ 65535) : num (headB e) 12 4 = 1594834165 ∧ num (headB e) 18 2 = e := by
  rw [num4, num2]
  simp [headB, be4, be2, UInt8.toNat_ofNat', List.replicate]
  omega
theorem n_hhea (m : Nat) (h : m ≤ 65535) : num (hheaB m) 34 2 = m := by
  rw [num2]
  simp [hheaB, be2, UInt8.toNat_ofNat', List.replicate]
  omega
def IsPlain (F : List UInt8) (g e m : Nat) : Prop := ∀ x y z, Good F x y z ↔ x = g ∧ y = e ∧ z = m ∧ 16 ≤ e ∧ e ≤ 16384 ∧ 1 ≤ m ∧ m ≤ g
theorem plain_good {rs : List PartV} (hf : fine rs) (hr : Rises rs) (hb : ∀ p ∈ rs, p.bs.length = p.n) (hsz : 12 + 16 * rs.length + tot rs < 4294967296) {p1 p2 p3 : PartV} (h1 : p1 ∈ rs) (h2 : p2 ∈ rs) (h3 : p3 ∈ rs)
    (t1 : p1.tag = sMaxp) (t2 : p2.tag = sHead) (t3 : p3.tag = sHhea) {g e m : Nat} (b1 : p1.bs = maxpB g) (b2 : p2.bs = headB e) (b3 : p3.bs = hheaB m) (hg : g ≤ 65535) (he : e ≤ 65535) (hm : m ≤ 65535) : IsPlain (font rs) g e m := by
  obtain ⟨i1, f1, l1, d1⟩ := font_tab hf hr hb hsz h1
  obtain ⟨i2, f2, l2, d2⟩ := font_tab hf hr hb hsz h2
  obtain ⟨i3, f3, l3, d3⟩ := font_tab hf hr hb hsz h3
  rw [t1] at f1
  rw [t2] at f2
  rw [t3] at f3
  rw [b1] at d1
  rw [b2] at d2
  rw [b3] at d3
  have n1 : p1.n = 6 := by rw [← hb p1 h1, b1]; simp [maxpB, be4, be2]
  have n2 : p2.n = 54 := by rw [← hb p2 h2, b2]; simp [headB, be4, be2]
  have n3 : p3.n = 36 := by rw [← hb p3 h3, b3]; simp [hheaB, be2]
  have a1 := n_maxp g hg
  have a2 := n_head e he
  have a3 := n_hhea m hm
  intro x y z
  constructor
  · rintro ⟨j1, j2, j3, hx⟩
    obtain rfl := found_one f1 hx.t1.1
    obtain rfl := found_one f2 hx.t2.1
    obtain rfl := found_one f3 hx.t3.1
    have e1 := hx.ng
    have e2 := hx.ne
    have e3 := hx.nm
    rw [d1, a1.2] at e1
    rw [d2, a2.2] at e2
    rw [d3, a3] at e3
    have := hx.em
    have := hx.met
    omega
  · rintro ⟨rfl, rfl, rfl, k1, k2, k3, k4⟩
    exact ⟨i1, i2, i3, ⟨f1, by omega⟩, ⟨f2, by omega⟩, ⟨f3, by omega⟩, .inl (by rw [d1, a1.1]), by rw [d2, a2.1], by rw [d1, a1.2], by rw [d2, a2.2], by rw [d3, a3], ⟨k1, k2⟩, ⟨k3, k4⟩⟩
theorem plain_apart {p1 p2 p3 : PartV} (t1 : p1.tag = sMaxp) (t2 : p2.tag = sHead) (t3 : p3.tag = sHhea) : Apart [p1, p2, p3] := by
  simp only [Apart, tagOf, List.pairwise_cons, List.mem_cons, List.not_mem_nil, or_false, forall_eq_or_imp, forall_eq, t1, t2, t3]
  exact ⟨⟨by decide, by decide⟩, by decide, (fun _ h => h.elim), List.Pairwise.nil⟩

theorem rmake_plain (b : Nat) (p1 p2 p3 : PartV) (base : Nat) (w : World) (ho : w.ownsRow base 27 2 (.slice (some ⟨b, 0, none⟩) 3 3) 3 (encAll [p1, p2, p3])) (o1 : Bytes w base p1) (o2 : Bytes w base p2) (o3 : Bytes w base p3)
    (t1 : p1.tag = sMaxp) (t2 : p2.tag = sHead) (t3 : p3.tag = sHhea) {g e m : Nat} (b1 : p1.bs = maxpB g) (b2 : p2.bs = headB e) (b3 : p3.bs = hheaB m) (hg : g ≤ 65535) (he : e ≤ 65535) (hm : m ≤ 65535) :
    Calls Try.prog 12 #[.slice (some ⟨b, 0, none⟩) 3 3] w fun r w' => ∃ a' n' c' F, r = .returned (.slice a' n' c') ∧ Has w' a' (bytesV F) ∧ F.length = n' ∧ n' ≤ c' ∧ c' ≤ maxLen ∧ IsPlain F g e m ∧ Below w.heap.size w w' := by
  have n1 : p1.n = 6 := by rw [← o1.len, b1]; simp [maxpB, be4, be2]
  have n2 : p2.n = 54 := by rw [← o2.len, b2]; simp [headB, be4, be2]
  have n3 : p3.n = 36 := by rw [← o3.len, b3]; simp [hheaB, be2]
  have hall : ∀ p ∈ [p1, p2, p3], p = p1 ∨ p = p2 ∨ p = p3 := fun p hp => by simpa using hp
  refine (rmake_any _ 3 3 [p1, p2, p3] w (owns_has2 ho) rfl (Nat.le_refl _) (by decide) (by decide) (by decide) (fun p hp => ?_) (fun p hp => ?_) (plain_apart t1 t2 t3)).mono ?_
  · rcases hall p hp with rfl | rfl | rfl
    · exact o1.ok (by omega)
    · exact o2.ok (by omega)
    · exact o3.ok (by omega)
  · rcases hall p hp with rfl | rfl | rfl
    · rw [t1]; rfl
    · rw [t2]; rfl
    · rw [t3]; rfl
  · rintro r w' ⟨rs, hp, hr, hf, a', c', rfl, hown, k1, k2, k3, hb⟩
    have hbs : ∀ p ∈ rs, p.bs.length = p.n := fun p hp' => by
      rcases hall p (hp.mem_iff.1 hp') with rfl | rfl | rfl
      · exact o1.len
      · exact o2.len
      · exact o3.len
    have hlen : rs.length = 3 := hp.length_eq
    have htot : tot rs ≤ rs.length * 100003 := tot_le w rs fun p hp' => by
      rcases hall p (hp.mem_iff.1 hp') with rfl | rfl | rfl
      · exact o1.ok (by omega)
      · exact o2.ok (by omega)
      · exact o3.ok (by omega)
    exact ⟨a', _, c', font rs, rfl, has_of_owns hown, rfl, k1, k2, plain_good hf hr hbs (by omega) (hp.mem_iff.2 (by simp)) (hp.mem_iff.2 (by simp)) (hp.mem_iff.2 (by simp)) t1 t2 t3 b1 b2 b3 hg he hm, hb⟩
end Go.Proofs.Ythacabmnnpibkaa
