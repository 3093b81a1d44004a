
/- There and back: a font that was made has just its tables. No condition beside sizes. -/
import Derived.Test.YthacabmnnpibkaaMake
import Derived.Test.YthacabmnnpibkaaPerm
import Derived.Test.YthacabmnnpibkaaFind
namespace Go.Proofs.Ythacabmnnpibkaa
open Go.RowKit Go.Lib

theorem less_bl : ∀ a b : List UInt8, Op.bytesLess a b = bl' a b
  | [], [] => by simp [Op.bytesLess, bl_nil]
  | [], y :: b => by simp [Op.bytesLess, bl_nil]
  | x :: a, [] => by simp [Op.bytesLess, bl_nil']
  | x :: a, y :: b => by rw [Op.bytesLess, bl_cons, less_bl a b]
theorem rowsOf_app (l m : List PartV) : ∀ at_, rowsOf at_ (l ++ m) = rowsOf at_ l ++ rowsOf (at_ + tot l) m := by
  induction l with
  | nil => intro at_; simp [rowsOf, tot]
  | cons q l ih =>
    intro at_
    simp only [List.cons_append, rowsOf, ih, tot, List.append_assoc]
    rw [show at_ + q.n + lackN q.n + tot l = at_ + (q.n + lackN q.n + tot l) by omega]
theorem rowOf_length (p : PartV) (at_ : Nat) (h : p.tag.size = 4) : (rowOf p at_).length = 16 := by
  have : p.tag.data.toList.length = 4 := h
  simp [rowOf, be4, this]
theorem rowsOf_length (l : List PartV) (h : ∀ p ∈ l, p.tag.size = 4) : ∀ at_, (rowsOf at_ l).length = 16 * l.length := by
  induction l with
  | nil => intro at_; rfl
  | cons p l ih =>
    intro at_
    rw [rowsOf, List.length_append, rowOf_length p _ (h p (by simp)), ih (fun q hq => h q (by simp [hq]))]
    simp; omega
theorem dataOf_length (l : List PartV) (h : ∀ p ∈ l, p.bs.length = p.n) : (l.flatMap dataOf).length = tot l := by
  induction l with
  | nil => rfl
  | cons p l ih =>
    rw [List.flatMap_cons, List.length_append, ih (fun q hq => h q (by simp [hq])), tot, dataOf, List.length_append, h p (by simp), List.length_replicate]
theorem split_at {rs : List PartV} {i : Nat} {p : PartV} (h : rs[i]? = some p) : rs = rs.take i ++ p :: rs.drop (i + 1) := by
  obtain ⟨hi, rfl⟩ := List.getElem?_eq_some_iff.1 h
  rw [List.getElem_cons_drop]
  exact (List.take_append_drop i rs).symm
theorem font_row {rs : List PartV} (h : ∀ p ∈ rs, p.tag.size = 4) {i : Nat} {p : PartV} (hp : rs[i]? = some p) : ((font rs).drop (12 + 16 * i)).take 16 = rowOf p (12 + 16 * rs.length + tot (rs.take i)) := by
  have hi := (List.getElem?_eq_some_iff.1 hp).1
  have e1 : (rowsOf (12 + 16 * rs.length) (rs.take i)).length = 16 * i := by rw [rowsOf_length _ (fun q hq => h q (List.mem_of_mem_take hq)), List.length_take]; omega
  have e2 : font rs = (hdr rs.length ++ rowsOf (12 + 16 * rs.length) (rs.take i)) ++ (rowOf p (12 + 16 * rs.length + tot (rs.take i)) ++ (rowsOf (12 + 16 * rs.length + tot (rs.take i) + p.n + lackN p.n) (rs.drop (i + 1)) ++ rs.flatMap dataOf)) := by
    rw [font]
    conv => lhs; rw [show rowsOf (12 + 16 * rs.length) rs = rowsOf (12 + 16 * rs.length) (rs.take i ++ p :: rs.drop (i + 1)) by rw [← split_at hp]]
    rw [rowsOf_app, rowsOf]
    simp only [List.append_assoc]
  rw [e2, List.drop_left' (by rw [List.length_append, hdr_length, e1]), List.take_left' (rowOf_length p _ (h p (List.mem_of_getElem? hp)))]
theorem font_data {rs : List PartV} (h : ∀ p ∈ rs, p.tag.size = 4) (hb : ∀ p ∈ rs, p.bs.length = p.n) {i : Nat} {p : PartV} (hp : rs[i]? = some p) : ((font rs).drop (12 + 16 * rs.length + tot (rs.take i))).take p.n = p.bs := by
  have e2 : font rs = (hdr rs.length ++ rowsOf (12 + 16 * rs.length) rs ++ (rs.take i).flatMap dataOf) ++ (p.bs ++ (List.replicate (lackN p.n) 0 ++ (rs.drop (i + 1)).flatMap dataOf)) := by
    rw [font]
    conv => lhs; rw [show rs.flatMap dataOf = (rs.take i ++ p :: rs.drop (i + 1)).flatMap dataOf by rw [← split_at hp]]
    rw [List.flatMap_append, List.flatMap_cons, dataOf]
    simp only [List.append_assoc]
  rw [e2, List.drop_left' (by rw [List.length_append, List.length_append, hdr_length, rowsOf_length _ h, dataOf_length _ (fun q hq => hb q (List.mem_of_mem_take hq))]), List.take_left' (hb p (List.mem_of_getElem? hp))]
theorem font_length {rs : List PartV} (h : ∀ p ∈ rs, p.tag.size = 4) (hb : ∀ p ∈ rs, p.bs.length = p.n) : (font rs).length = 12 + 16 * rs.length + tot rs := by
  rw [font, List.length_append, List.length_append, hdr_length, rowsOf_length _ h, dataOf_length _ hb]
theorem num_eq4 {bs : List UInt8} {k z : Nat} (h : (bs.drop k).take 4 = be4 z) (hz : z < 4294967296) : num bs k 4 = z := by
  have := num_sub bs k 4 0 (by omega)
  rw [Nat.add_zero] at this
  rw [← this, h, num4]
  simp only [be4, List.getD_eq_getElem?_getD, List.getElem?_cons_zero, List.getElem?_cons_succ, Option.getD_some, Nat.zero_add, UInt8.toNat_ofNat']
  omega
theorem font_cnt (rs : List PartV) (hn : rs.length ≤ 65535) : cntOf (font rs) = rs.length := by
  rw [cntOf, num2, font, hdr]
  simp [be4, be2, UInt8.toNat_ofNat']
  omega
theorem font_kind (rs : List PartV) : num (font rs) 0 4 = 65536 := by
  rw [num4, font, hdr]
  simp [be4, UInt8.toNat_ofNat']
theorem row_parts {p : PartV} {at_ : Nat} (h : p.tag.size = 4) : (rowOf p at_).take 4 = p.tag.data.toList ∧ ((rowOf p at_).drop 8).take 4 = be4 at_ ∧ ((rowOf p at_).drop 12).take 4 = be4 p.n := by
  have h4 : p.tag.data.toList.length = 4 := h
  rw [rowOf]
  generalize p.tag.data.toList = l at *
  match l, h4 with
  | [a, b, c, d], _ => simp [be4]
/-- A font of parts that may be has just these tables. -/
theorem font_is {rs : List PartV} (hf : fine rs) (hr : Rises rs) (hb : ∀ p ∈ rs, p.bs.length = p.n) (hsz : 12 + 16 * rs.length + tot rs < 4294967296) :
    isFont (font rs) ∧ cntOf (font rs) = rs.length ∧ ∀ i p, rs[i]? = some p → tagAt (font rs) i = p.tag.data.toList ∧ atAt (font rs) i = 12 + 16 * rs.length + tot (rs.take i) ∧ lenAt (font rs) i = p.n := by
  have h4 : ∀ p ∈ rs, p.tag.size = 4 := fun p hp => by
    obtain ⟨i, hi⟩ := List.getElem?_of_mem hp
    exact (hf.1 i (List.getElem?_eq_some_iff.1 hi).1 p hi).1
  have hcnt := font_cnt rs (by have := hf.2; omega)
  have htot : ∀ i p, rs[i]? = some p → tot (rs.take i) + p.n ≤ tot rs := fun i p hp => by
    have e : tot rs = tot (rs.take i ++ p :: rs.drop (i + 1)) := by rw [← split_at hp]
    have app : ∀ l m : List PartV, tot (l ++ m) = tot l + tot m := by
      intro l m
      induction l with
      | nil => simp [tot]
      | cons q l ih => simp only [List.cons_append, tot, ih]; omega
    rw [app, tot] at e
    omega
  have hrow : ∀ i p, rs[i]? = some p → tagAt (font rs) i = p.tag.data.toList ∧ atAt (font rs) i = 12 + 16 * rs.length + tot (rs.take i) ∧ lenAt (font rs) i = p.n := fun i p hp => by
    have hR := font_row h4 hp
    obtain ⟨r1, r2, r3⟩ := row_parts (p := p) (at_ := 12 + 16 * rs.length + tot (rs.take i)) (h4 p (List.mem_of_getElem? hp))
    have ht := htot i p hp
    refine ⟨?_, ?_, ?_⟩
    · rw [← r1, ← hR, List.take_take, tagAt]; rfl
    · refine num_eq4 ?_ (by omega)
      rw [← r2, ← hR, List.drop_take, List.drop_drop, List.take_take]; rfl
    · refine num_eq4 ?_ (by omega)
      rw [← r3, ← hR, List.drop_take, List.drop_drop, List.take_take]; rfl
  refine ⟨⟨⟨?_, .inl (font_kind rs), ?_⟩, ?_⟩, hcnt, hrow⟩
  · rw [font_length h4 hb]; omega
  · rw [hcnt, font_length h4 hb]; omega
  · intro i hi
    rw [hcnt] at hi
    have hp := List.getElem?_eq_getElem hi
    obtain ⟨t1, t2, t3⟩ := hrow i _ hp
    refine ⟨fun h0 => ?_, ?_⟩
    · have hq := List.getElem?_eq_getElem (show i - 1 < rs.length by omega)
      rw [(hrow (i - 1) _ hq).1, t1, ltB, str_toList, str_toList, less_bl]
      have g1 : bl' (tagOf rs[i]) (tagOf rs[i - 1]) = false := by
        unfold Rises at hr
        rw [List.pairwise_iff_getElem] at hr
        exact hr (i - 1) i (by omega) hi (by omega)
      refine (Bool.eq_false_or_eq_true _).resolve_right fun g2 => ?_
      have := (hf.1 i hi rs[i] hp).2 rs[i - 1] h0 hq
      rw [ByteArray.toList_eq, ByteArray.toList_eq] at this
      exact this (bl_anti _ _ g2 g1)
    · rw [t2, t3, font_length h4 hb]
      have := htot i _ hp
      omega
end Go.Proofs.Ythacabmnnpibkaa
