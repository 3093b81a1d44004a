
/- Plain facts on fonts with advances: the bytes of hmtx, and what the document's Make and width.Read make of four parts. Conditions: numbers of two bytes; parts of no more than 100000 bytes. -/
import Derived.Test.YthacabmnnpibkaaWAdv
import Derived.Test.YthacabmnnpibkaaFaceNum
namespace Go.Proofs.Ythacabmnnpibkaa
open Go.RowKit Go.Lib

/-- So many rows of an advance and a bearing. -/
def rowsF (vs : List Nat) (f : Nat → Nat) (k : Nat) : List UInt8 := (List.range k).flatMap fun i => be2 (vs.getD i 0) ++ be2 (f i)
theorem rowsF_succ (vs : List Nat) (f : Nat → Nat) (k : Nat) : rowsF vs f (k + 1) = rowsF vs f k ++ be2 (vs.getD k 0) ++ be2 (f k) := by simp [rowsF, List.range_succ]
theorem rowsF_length (vs : List Nat) (f : Nat → Nat) (k : Nat) : (rowsF vs f k).length = 4 * k := by
  induction k with
  | zero => rfl
  | succ k ih => rw [rowsF_succ, List.length_append, List.length_append, ih]; simp [be2]; omega
theorem num_right (A B : List UInt8) (j : Nat) : num (A ++ B) (A.length + j) 2 = num B j 2 := by
  rw [num2, num2]
  simp only [List.getD_eq_getElem?_getD]
  rw [List.getElem?_append_right (by omega), List.getElem?_append_right (by omega)]
  rw [show A.length + j - A.length = j by omega, show A.length + j + 1 - A.length = j + 1 by omega]
theorem num_be2 (x : Nat) (Z : List UInt8) (h : x ≤ 65535) : num (be2 x ++ Z) 0 2 = x := by
  rw [num2]
  simp [be2, UInt8.toNat_ofNat']
  omega
theorem rowsF_num (vs : List Nat) (f : Nat → Nat) (k i : Nat) (Z : List UInt8) (hi : i < k) (ha : vs.getD i 0 ≤ 65535) (hf : f i ≤ 65535) :
    num (rowsF vs f k ++ Z) (4 * i) 2 = vs.getD i 0 ∧ num (rowsF vs f k ++ Z) (4 * i + 2) 2 = f i := by
  induction k generalizing Z with
  | zero => omega
  | succ k ih =>
    rw [rowsF_succ, List.append_assoc, List.append_assoc]
    rcases Nat.lt_or_ge i k with g | g
    · exact ih _ g
    · obtain rfl : i = k := by omega
      have h1 := num_right (rowsF vs f i) (be2 (vs.getD i 0) ++ (be2 (f i) ++ Z)) 0
      have h2 := num_right (rowsF vs f i) (be2 (vs.getD i 0) ++ (be2 (f i) ++ Z)) 2
      rw [rowsF_length] at h1 h2
      refine ⟨h1.trans (num_be2 _ _ ha), h2.trans ?_⟩
      have h3 := num_right (be2 (vs.getD i 0)) (be2 (f i) ++ Z) 0
      exact h3.trans (num_be2 _ _ hf)
structure Plain4 (F : List UInt8) (g e m : Nat) (T : List UInt8) : Prop where
  plain : IsPlain F g e m
  table : ∃ i, tagFound F tHmtx.toList i ∧ lenAt F i = T.length ∧ tabB F i = T
theorem four_apart {p1 p2 p3 p4 : PartV} (t1 : p1.tag = sMaxp) (t2 : p2.tag = sHead) (t3 : p3.tag = sHhea) (t4 : p4.tag = tHmtx) : Apart [p1, p2, p3, p4] := by
  simp only [Apart, tagOf, List.pairwise_cons, List.mem_cons, List.not_mem_nil, or_false, forall_eq_or_imp, forall_eq, t1, t2, t3, t4]
  exact ⟨⟨by decide, by decide, by decide⟩, ⟨by decide, by decide⟩, by decide, (fun _ h => h.elim), List.Pairwise.nil⟩
theorem rmake_four (a : Option Addr) (c : Nat) (p1 p2 p3 p4 : PartV) (base : Nat) (w : World) (hh : Has w a (encAll [p1, p2, p3, p4])) (hc4 : 4 ≤ c) (hcm : c ≤ maxLen) (o1 : Bytes w base p1) (o2 : Bytes w base p2) (o3 : Bytes w base p3) (o4 : Bytes w base p4)
    (t1 : p1.tag = sMaxp) (t2 : p2.tag = sHead) (t3 : p3.tag = sHhea) (t4 : p4.tag = tHmtx) {g e m : Nat} (b1 : p1.bs = maxpB g) (b2 : p2.bs = headB e) (b3 : p3.bs = hheaB m) (hg : g ≤ 65535) (he : e ≤ 65535) (hm : m ≤ 65535) (h4 : p4.n ≤ 100000) :
    Calls Try.prog 12 #[.slice a 4 c] w fun r w' => ∃ a' n' c' F, r = .returned (.slice a' n' c') ∧ w'.ownsRow w.heap.size 5 1 (.slice a' n' c') n' (bytesV F) ∧ F.length = n' ∧ n' ≤ c' ∧ c' ≤ maxLen ∧ (a' = none → c' = 0) ∧ n' ≤ 1000000 ∧ Plain4 F g e m p4.bs ∧ Below w.heap.size w w' := by
  have n1 : p1.n = 6 := by rw [← o1.len, b1]; simp [maxpB, be4, be2]
  have n2 : p2.n = 54 := by rw [← o2.len, b2]; simp [headB, be4, be2]
  have n3 : p3.n = 36 := by rw [← o3.len, b3]; simp [hheaB, be2]
  have hall : ∀ p ∈ [p1, p2, p3, p4], p = p1 ∨ p = p2 ∨ p = p3 ∨ p = p4 := fun p hp => by simpa using hp
  have hok : ∀ p ∈ [p1, p2, p3, p4], p.ok w := fun p hp => by
    rcases hall p hp with rfl | rfl | rfl | rfl
    · exact o1.ok (by omega)
    · exact o2.ok (by omega)
    · exact o3.ok (by omega)
    · exact o4.ok (by omega)
  refine (rmake_any _ 4 c [p1, p2, p3, p4] w hh rfl hc4 hcm (by decide) (by decide) hok (fun p hp => ?_) (four_apart t1 t2 t3 t4)).mono ?_
  · rcases hall p hp with rfl | rfl | rfl | rfl
    · rw [t1]; rfl
    · rw [t2]; rfl
    · rw [t3]; rfl
    · rw [t4]; rfl
  · rintro r w' ⟨rs, hp, hr, hf, a', c', rfl, hown, k1, k2, k3, hb⟩
    have hbs : ∀ p ∈ rs, p.bs.length = p.n := fun p hp' => by
      rcases hall p (hp.mem_iff.1 hp') with rfl | rfl | rfl | rfl
      · exact o1.len
      · exact o2.len
      · exact o3.len
      · exact o4.len
    have hlen : rs.length = 4 := hp.length_eq
    have htot : tot rs ≤ rs.length * 100003 := tot_le w rs fun p hp' => hok p (hp.mem_iff.1 hp')
    have hsz : 12 + 16 * rs.length + tot rs < 4294967296 := by omega
    obtain ⟨i, f1, f2, f3⟩ := font_tab hf hr hbs hsz (p := p4) (hp.mem_iff.2 (by simp))
    rw [t4] at f1
    refine ⟨a', _, c', font rs, rfl, hown, rfl, k1, k2, k3, ?_, ⟨plain_good hf hr hbs hsz (hp.mem_iff.2 (by simp)) (hp.mem_iff.2 (by simp)) (hp.mem_iff.2 (by simp)) t1 t2 t3 b1 b2 b3 hg he hm, i, f1, ?_, f3⟩, hb⟩
    · have h4s : ∀ p ∈ rs, p.tag.size = 4 := fun p hp' => by
        rcases hall p (hp.mem_iff.1 hp') with rfl | rfl | rfl | rfl
        · rw [t1]; rfl
        · rw [t2]; rfl
        · rw [t3]; rfl
        · rw [t4]; rfl
      have := font_length h4s hbs
      omega
    · rw [f2, o4.len]

theorem wread_four (a : Option Addr) (n c : Nat) (F : List UInt8) (g e m : Nat) (T : List UInt8) (w : World) (h : Has w a (bytesV F)) (hl : F.length = n) (hn : n ≤ c) (hc : c ≤ maxLen) (hF : Plain4 F g e m T) (he : 16 ≤ e ∧ e ≤ 16384) (hm : 1 ≤ m ∧ m ≤ g) (hT : 4 * m + 2 * (g - m) ≤ T.length) :
    Calls Try.prog 14 #[.slice a n c] w fun r w' => ∃ gw, r = .returned (.tuple #[.pointer (some ⟨gw, 0, none⟩), .int .i64 0]) ∧ WDone w.heap.size gw g e m T w' ∧ w.heap.size ≤ gw ∧ Below w.heap.size w w' := by
  obtain ⟨j, hj, hjl, hjt⟩ := hF.table
  refine (wread_any a n c F w h hl hn hc).mono ?_
  rintro r w' ⟨(⟨g', e', m', i, gw, hG, _, hi, rfl, hd, hgw⟩ | ⟨hno, _⟩), hb⟩
  · obtain ⟨rfl, rfl, rfl, _⟩ := (hF.plain g' e' m').1 hG
    obtain rfl := found_one hi.1 hj
    rw [hjt] at hd
    exact ⟨gw, rfl, hd, hgw, hb⟩
  · exact absurd ⟨hj, by rw [hjl]; exact hT⟩ (hno g e m j ((hF.plain g e m).2 ⟨rfl, rfl, rfl, he.1, he.2, hm.1, hm.2⟩))
theorem wread_short (a : Option Addr) (n c : Nat) (F : List UInt8) (g e m : Nat) (T : List UInt8) (w : World) (h : Has w a (bytesV F)) (hl : F.length = n) (hn : n ≤ c) (hc : c ≤ maxLen) (hF : Plain4 F g e m T) (hT : ¬ 4 * m + 2 * (g - m) ≤ T.length) :
    Calls Try.prog 14 #[.slice a n c] w fun r w' => r = .returned (.tuple #[.pointer none, .int .i64 2]) ∧ Below w.heap.size w w' := by
  obtain ⟨j, hj, hjl, hjt⟩ := hF.table
  refine (wread_any a n c F w h hl hn hc).mono ?_
  rintro r w' ⟨(⟨g', e', m', i, gw, hG, _, hi, rfl, hd, hgw⟩ | ⟨hno, hr⟩), hb⟩
  · obtain ⟨rfl, rfl, rfl, _⟩ := (hF.plain g' e' m').1 hG
    obtain rfl := found_one hi.1 hj
    have := hi.2
    rw [hjl] at this
    exact absurd this hT
  · exact ⟨hr, hb⟩
end Go.Proofs.Ythacabmnnpibkaa
