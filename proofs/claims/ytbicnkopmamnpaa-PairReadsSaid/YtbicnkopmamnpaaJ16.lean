/- Joined from: PrSpk PrMost PrRefM. -/
import Derived.Test.YtbicnkopmamnpaaJ01
import Derived.Test.YtbicnkopmamnpaaJ15
import Derived.Test.YtbicnkopmamnpaaJ13
import Derived.Test.YtbicnkopmamnpaaJ12
section

/- A List of pairs by its bytes: whether they rise, and each one's distance; layer 22's speaks. No condition. -/
namespace Go.Proofs.Ytbicnkopmamnpaa
open Go.RowKit Go.Lib

def RisesP (l : List PrT) : Prop := ∀ (i : Nat) (p q : PrT), l[i]? = some p → l[i + 1]? = some q → p.1 * 65536 + p.2.1 < q.1 * 65536 + q.2.1
theorem listB_ok (l : List PrT) (hn : l.length ≤ 65535) (hok : ∀ p ∈ l, PrT.ok p) : PListOk (listB l) ↔ RisesP l := by
  constructor
  · intro h i p q hp hq
    have := h.rise i (by rw [listB_n l hn]; exact (List.getElem?_eq_some_iff.1 hq).1)
    rw [(listB_at hp (hok p (List.mem_of_getElem? hp))).2.2.2, (listB_at hq (hok q (List.mem_of_getElem? hq))).2.2.2] at this
    exact this
  · intro h
    refine ⟨by rw [listB_n l hn, listB_length]; exact Nat.le_refl _, fun i hi => ?_⟩
    rw [listB_n l hn] at hi
    have hp := List.getElem?_eq_getElem (show i < l.length by omega)
    have hq := List.getElem?_eq_getElem hi
    rw [(listB_at hp (hok _ (List.mem_of_getElem? hp))).2.2.2, (listB_at hq (hok _ (List.mem_of_getElem? hq))).2.2.2]
    exact h i _ _ hp hq
theorem distP_in {l : List PrT} (hn : l.length ≤ 65535) (hok : ∀ p ∈ l, PrT.ok p) (h : PListOk (listB l)) {i : Nat} {p : PrT} (hp : l[i]? = some p) : distP (listB l) (p.1 : Nat) (p.2.1 : Nat) = p.2.2 := by
  have hpo := hok p (List.mem_of_getElem? hp)
  obtain ⟨_, _, e3, e4⟩ := listB_at hp hpo
  rw [distP_at h (by rw [listB_n l hn]; exact (List.getElem?_eq_some_iff.1 hp).1) hpo.1 hpo.2.1 e4, e3, s16_m16 hpo.2.2]
theorem distP_out {l : List PrT} (hn : l.length ≤ 65535) (hok : ∀ p ∈ l, PrT.ok p) {x y : Int} (h : ∀ p ∈ l, ¬ ((p.1 : Int) = x ∧ (p.2.1 : Int) = y)) : distP (listB l) x y = 0 := by
  refine distP_no fun i hi ⟨h1, h2⟩ => ?_
  rw [listB_n l hn] at hi
  have hp := List.getElem?_eq_getElem hi
  obtain ⟨e1, e2, _⟩ := listB_at hp (hok _ (List.mem_of_getElem? hp))
  rw [e1] at h1
  rw [e2] at h2
  exact h _ (List.mem_of_getElem? hp) ⟨h1, h2⟩
/-- Read of a List that was written. -/
theorem pread_list (l : List PrT) (hn : l.length ≤ 1000) (hok : ∀ p ∈ l, PrT.ok p) (a : Option Addr) (n c : Nat) (glyphs : Nat) (zg : Int) (hzg : zg = (glyphs : Nat)) (hg1 : 1 ≤ glyphs) (hg2 : glyphs ≤ 65535) (w : World) (h : Has w a (bytesV (listB l))) (hl : 16 + 6 * l.length = n) :
    Calls Try.prog 53 #[.int .i64 0, .slice a n c, .int .i64 zg] w fun e w' => ((RisesP l ∧ ∃ g, e = .returned (.tuple #[.pointer (some ⟨g, 0, none⟩), .int .i64 0]) ∧ PrIs (spR w.heap.size) w.heap.size g (listB l) 0 [] [] w') ∨ (¬ RisesP l ∧ e = .returned (.tuple #[.pointer none, .int .i64 2]))) ∧ Below w.heap.size w w' := by
  subst hzg
  refine (pread_any 0 a n c (listB l) (glyphs : Nat) w h (by rw [listB_length]; exact hl) (by omega)).mono ?_
  rintro e w' ⟨(⟨hb, _⟩ | ⟨_, hno, he⟩ | ⟨_, r1, r2, g, hok', he, hp⟩), hb⟩
  · unfold badP at hb; omega
  · exact ⟨.inr ⟨fun hr => hno [] [] (.inl ⟨rfl, (listB_ok l (by omega) hok).2 hr, rfl, rfl⟩), he⟩, hb⟩
  · rcases hok' with ⟨_, hlo, rfl, rfl⟩ | ⟨h2, _⟩ | ⟨h6, _⟩
    · exact ⟨.inl ⟨(listB_ok l (by omega) hok).1 hlo, g, he, hp⟩, hb⟩
    · omega
    · omega
theorem pget_list {l : List PrT} (hn : l.length ≤ 1000) (hok : ∀ p ∈ l, PrT.ok p) (hr : RisesP l) (M : Nat → Nat → Prop) (B gx : Nat) (x y : Int) (w : World) (h : PrIs M B gx (listB l) 0 [] [] w) (hx : -9223372036854775808 ≤ x ∧ x ≤ 9223372036854775807) (hy : -9223372036854775808 ≤ y ∧ y ≤ 9223372036854775807) :
    Calls Try.prog 55 #[.pointer (some ⟨gx, 0, none⟩), .int .i64 x, .int .i64 y] w fun e w' => e = .returned (.int .i64 (distP (listB l) x y)) ∧ Below w.heap.size w w' :=
  pget_any M B gx (listB l) 0 9 [] [] x y w h (.inl ⟨rfl, (listB_ok l (by omega) hok).2 hr, rfl, rfl⟩) (by decide) hx hy
theorem eqPtn (w : World) (p : Addr) : (binOp .neq 100 (.pointer (some p)) (.pointer none)).run Try.prog w = .ok (.bool true) w := by kernel_rfl
theorem eqPte (w : World) (p : Addr) : (binOp .eql 100 (.pointer (some p)) (.pointer none)).run Try.prog w = .ok (.bool false) w := by kernel_rfl
theorem eqPnn (w : World) : (binOp .neq 100 (.pointer none) (.pointer none)).run Try.prog w = .ok (.bool false) w := by kernel_rfl
theorem eqPne (w : World) : (binOp .eql 100 (.pointer none) (.pointer none)).run Try.prog w = .ok (.bool true) w := by kernel_rfl
def onePr : List PrT := [(5, 6, -20)]
theorem onePr_ok : ∀ p ∈ onePr, PrT.ok p := by
  intro p hp
  simp [onePr] at hp
  subst hp
  simp [PrT.ok]
theorem onePr_rises : RisesP onePr := fun i p q _ hq => by
  have := (List.getElem?_eq_some_iff.1 hq).1
  simp [onePr] at this
set_option maxRecDepth 100000 in
set_option maxHeartbeats 3200000 in
theorem speaks22_any (w : World) : Calls Try.prog 52 #[] w fun e w' => e = .returned (.bool true) ∧ Below w.heap.size w w' := by
  have hAC := allocC
  have hAF := allocF
  have h1 := eqPtn
  have HW := Lib.hid (fun W (a : Option Addr) (hW : Has W a (prV onePr)) => write22_any a 1 1 onePr W hW rfl (by decide) onePr_ok)
  have d1 : distP (listB onePr) 5 6 = -20 := distP_in (l := onePr) (by decide) onePr_ok ((listB_ok onePr (by decide) onePr_ok).2 onePr_rises) (i := 0) (p := (5, 6, -20)) rfl
  have d2 : distP (listB onePr) 6 5 = 0 := distP_out (by decide) onePr_ok (by intro p hp; simp [onePr] at hp; subst hp; simp)
  have HG := Lib.hid (fun (x y : Int) M B g W hx hy h => pget_list (l := onePr) (by decide) onePr_ok onePr_rises M B g x y W h hx hy)
  have HA := Lib.hid (show Has (w.alloc (Obj.cells #[.int .u16 5, .int .u16 6, .int .i16 (-20)] 114)) (some ⟨w.heap.size, 0, none⟩) (prV onePr) from has_alloc w _ _)
  go_enter Try.func52, Try.ntmps52
  go_wp2_with (first
    | (go_at_call 57; (with_reducible refine (HW.out _ _ HA.out).mono ?_); rintro e w1 ⟨a1, c1, rfl, ho1, _, _, _, hb1⟩; have HO1 := Lib.hid (has_of_owns ho1); have HB1 := Lib.hid (show Below w.heap.size w w1 from by exact blw); clear ho1 hb1)
    | (go_at_call 53; (with_reducible refine (pread_list onePr (by decide) onePr_ok a1 22 c1 9 9 rfl (by decide) (by decide) w1 HO1.out rfl).mono ?_); rintro e w2 ⟨(⟨_, g, rfl, hp⟩ | ⟨hno, _⟩), hb2⟩; rotate_left; (exact absurd onePr_rises hno); have HP2 := Lib.hid hp; have HB2 := Lib.hid (HB1.out.trans (hb2.mono HB1.out.size)); clear hp hb2)
    | (go_at_call 55; (with_reducible refine (HG.out 5 6 _ _ g w2 (by decide) (by decide) HP2.out).mono ?_); rintro e w3 ⟨rfl, hb3⟩; rw [d1]; have HP3 := Lib.hid (HP2.out.below hb3); have HB3 := Lib.hid (HB2.out.trans (hb3.mono HB2.out.size)); clear hb3)
    | (go_at_call 55; (with_reducible refine (HG.out 6 5 _ _ g w3 (by decide) (by decide) HP3.out).mono ?_); rintro e w4 ⟨rfl, hb4⟩; rw [d2]; have HB4 := Lib.hid (HB3.out.trans (hb4.mono HB3.out.size)); clear hb4))
  go_ret
  exact ⟨by first | rfl | simp, HB4.out⟩
end Go.Proofs.Ytbicnkopmamnpaa
end
section

/- A lookup's parts, its numbers, and the document's greatest number of a lookup. Conditions: a lookup that was read; sizes. -/
namespace Go.Proofs.Ytbicnkopmamnpaa
open Go.RowKit Go.Lib

theorem foldR_part (bs : List UInt8) : ∀ (rs : List RP) (s : List PartL × List Nat), (∀ k, k < s.1.length → (rs.foldl (stepR bs) s).1[k]? = s.1[k]?) ∧ (∀ j r, rs[j]? = some r → ∃ m, (rs.foldl (stepR bs) s).1[s.1.length + j]? = some ⟨r.first, r.last, m, if r.own = true then 1 else 0⟩)
  | [], s => ⟨fun k _ => rfl, fun j r h => by simp at h⟩
  | r0 :: rs, s => by
    obtain ⟨h1, h2⟩ := foldR_part bs rs (stepR bs s r0)
    have hl : (stepR bs s r0).1.length = s.1.length + 1 := by simp [stepR]
    rw [List.foldl_cons]
    refine ⟨fun k hk => ?_, fun j r hj => ?_⟩
    · rw [h1 k (by omega)]
      show (s.1 ++ _)[k]? = _
      rw [List.getElem?_append_left hk]
    · cases j with
      | zero =>
        simp at hj
        subst hj
        refine ⟨s.2.length, ?_⟩
        rw [Nat.add_zero, h1 _ (by omega)]
        show (s.1 ++ _)[s.1.length]? = _
        rw [List.getElem?_append_right (Nat.le_refl _), Nat.sub_self]
        rfl
      | succ j =>
        obtain ⟨m, hm⟩ := h2 j r (by simpa using hj)
        exact ⟨m, by rw [← hm, hl]; congr 1; omega⟩
theorem tabR_part {bs : List UInt8} {rs : List RP} {j : Nat} {r : RP} (h : rs[j]? = some r) : ∃ m, (tabR bs rs).1[j]? = some ⟨r.first, r.last, m, if r.own = true then 1 else 0⟩ := by
  obtain ⟨m, hm⟩ := (foldR_part bs rs ([], [])).2 j r h
  exact ⟨m, by simpa [tabR] using hm⟩
/-- A glyph that has a number is within a part. -/
theorem lkR_in {bs : List UInt8} {rs : List RP} {id : Int} (h : (lkR bs rs id).2 = true) : ∃ (j : Nat) (r : RP), rs[j]? = some r ∧ (r.first : Int) ≤ id ∧ id ≤ (r.last : Int) := by
  unfold lkR getL at h
  split at h
  · rename_i p hp
    have h1 := List.find?_some hp
    obtain ⟨j, hj⟩ := List.getElem?_of_mem (List.mem_of_find?_eq_some hp)
    have hlt := (List.getElem?_eq_some_iff.1 hj).1
    rw [tabR_len] at hlt
    obtain ⟨m, hm⟩ := tabR_part (bs := bs) (List.getElem?_eq_getElem hlt)
    rw [hj] at hm
    cases hm
    refine ⟨j, rs[j], List.getElem?_eq_getElem hlt, ?_⟩
    simpa [inP] using h1
  · cases h
/-- Where a part has one number, each of its glyphs has that. -/
theorem lkR_one {bs : List UInt8} {rs : List RP} (hf : FitL (tabR bs rs).1 (tabR bs rs).2) {j : Nat} {r : RP} (hj : rs[j]? = some r) (ho : r.own = false) {id : Int} (h1 : (r.first : Int) ≤ id) (h2 : id ≤ (r.last : Int)) : lkR bs rs id = lkR bs rs (r.first : Nat) := by
  obtain ⟨m, hm⟩ := tabR_part (bs := bs) hj
  have hmem := List.mem_of_getElem? hm
  unfold lkR
  rw [getL_in hf.rising hmem h1 h2, getL_in hf.rising hmem (Int.le_refl _) (by show (r.first : Int) ≤ (r.last : Int); omega)]
  simp [ho]
theorem lkR_le' {bs : List UInt8} {rs : List RP} (hf : FitL (tabR bs rs).1 (tabR bs rs).2) (id : Int) : (lkR bs rs id).1 ≤ 4294967295 := by
  unfold lkR getL
  split
  · rename_i p _
    show (tabR bs rs).2.getD _ 0 ≤ _
    rw [List.getD_eq_getElem?_getD]
    cases h : (tabR bs rs).2[p.at_ + p.step * (id - p.first).toNat]? with
    | none => exact Nat.zero_le _
    | some x => exact hf.num x (List.mem_of_getElem? h)
  · exact Nat.zero_le _
theorem lkR_refS {bs : List UInt8} {glyphs size : Nat} {rs : List RP} (h : LkOk bs glyphs size rs) (hg : glyphs ≤ 65535) (hS : size = 2 ∨ size = 4) (id : Int) : refG bs rs id = lkR bs rs id := by
  have := (refG_tab bs rs h.ok (fun r hr => (h.rows.each hg hS).2 r hr) id rs.length (Nat.le_refl _)).1
  rw [List.take_length] at this
  exact this.symm
theorem reflkgetS (a : Option Addr) (n c : Nat) (bs : List UInt8) (glyphs size : Nat) (a' : Option Addr) (c' : Nat) (rs : List RP) (id : Int) (w : World) (h : Has w a (bytesV bs)) (hl : bs.length = n) (h20 : n ≤ 4000) (hr : Has w a' (encRs rs)) (hg : glyphs ≤ 65535) (hS : size = 2 ∨ size = 4) (hok : LkOk bs glyphs size rs) (hid : -9223372036854775808 ≤ id ∧ id ≤ 9223372036854775807) :
    Calls Try.prog 104 #[.agg #[.slice a n c, .slice a' rs.length c'], .int .i64 id] w fun e w' => e = .returned (.tuple #[.int .i64 ((lkR bs rs id).1 : Nat), .bool (lkR bs rs id).2]) ∧ Below w.heap.size w w' := by
  rw [← lkR_refS hok hg hS]
  exact refget_any a n c bs a' c' rs id w h hl (by omega) hr (by have := (hok.rows.each hg hS).1; omega) (by have := hok.fitG hg hS; rwa [hl] at this) hid
theorem reflkS_yes (a : Option Addr) (n c : Nat) (bs : List UInt8) (glyphs size : Nat) (zg zs : Int) (hzg : zg = (glyphs : Nat)) (hzs : zs = (size : Nat)) (hS : size = 2 ∨ size = 4) (rs : List RP) (w : World) (h : Has w a (bytesV bs)) (hl : bs.length = n) (hn : n ≤ c) (hc : c ≤ maxLen) (h20 : n ≤ 4000) (hg1 : 1 ≤ glyphs) (hg2 : glyphs ≤ 65535) (hok : LkOk bs glyphs size rs) :
    Calls Try.prog 98 #[.slice a n c, .int .i64 zg, .int .i64 zs] w fun e w' => ∃ a' c', e = .returned (.tuple #[.agg #[.slice a n c, .slice a' rs.length c'], .bool true]) ∧ Has w' a' (encRs rs) ∧ Below w.heap.size w w' := by
  refine (refRead_any a n c bs glyphs size zg zs hzg hzs hg1 hg2 hS w h hl hn hc h20).mono ?_
  rintro e w' ⟨(⟨rs', a', c', ho, he, hw, _⟩ | ⟨hno, _⟩), hb⟩
  · obtain rfl := hok.det ho
    exact ⟨a', c', he, hw, hb⟩
  · exact absurd hok (hno rs)
theorem reflkS_no (a : Option Addr) (n c : Nat) (bs : List UInt8) (glyphs size : Nat) (zg zs : Int) (hzg : zg = (glyphs : Nat)) (hzs : zs = (size : Nat)) (hS : size = 2 ∨ size = 4) (w : World) (h : Has w a (bytesV bs)) (hl : bs.length = n) (hn : n ≤ c) (hc : c ≤ maxLen) (h20 : n ≤ 4000) (hg1 : 1 ≤ glyphs) (hg2 : glyphs ≤ 65535) (hno : ∀ rs, ¬ LkOk bs glyphs size rs) :
    Calls Try.prog 98 #[.slice a n c, .int .i64 zg, .int .i64 zs] w fun e w' => e = .returned (.tuple #[.agg #[.slice none 0 0, .slice none 0 0], .bool false]) ∧ Below w.heap.size w w' := by
  refine (refRead_any a n c bs glyphs size zg zs hzg hzs hg1 hg2 hS w h hl hn hc h20).mono ?_
  rintro e w' ⟨(⟨rs', a', c', ho, _⟩ | ⟨_, he⟩), hb⟩
  · exact absurd ho (hno rs')
  · exact ⟨he, hb⟩
end Go.Proofs.Ytbicnkopmamnpaa
end
section

/- The document's greatest number of a lookup. Conditions: a lookup that was read; sizes. -/
namespace Go.Proofs.Ytbicnkopmamnpaa
open Go.RowKit Go.Lib

theorem part_at {w : World} {a : Option Addr} {rs : List RP} (h : Has w a (encRs rs)) {k : Nat} {r : RP} (hk : rs[k]? = some r) : ∃ g o, a = some ⟨g, o, none⟩ ∧ g < w.heap.size ∧ w.cell? ⟨g, o + k * 5, none⟩ = some (.int .i64 (r.first : Nat)) ∧ w.cell? ⟨g, o + k * 5 + 1, none⟩ = some (.int .i64 (r.last : Nat)) ∧ w.cell? ⟨g, o + k * 5 + 2, none⟩ = some (.int .i64 (r.at_ : Nat)) ∧ w.cell? ⟨g, o + k * 5 + 3, none⟩ = some (.int .i64 (r.size : Nat)) ∧ w.cell? ⟨g, o + k * 5 + 4, none⟩ = some (.int .i64 ((if r.own = true then r.size else 0 : Nat) : Int)) := by
  have hlt := (List.getElem?_eq_some_iff.1 hk).1
  obtain ⟨g, o, ha, hg, hx⟩ := h.get (by rw [encRs_length]; omega)
  have e := encRs_get rs k r hk
  refine ⟨g, o, ha, hg, hx _ _ (e 0 (by decide)), ?_, ?_, ?_, ?_⟩
  · rw [Nat.add_assoc]; exact hx _ _ (e 1 (by decide))
  · rw [Nat.add_assoc]; exact hx _ _ (e 2 (by decide))
  · rw [Nat.add_assoc]; exact hx _ _ (e 3 (by decide))
  · rw [Nat.add_assoc]; exact hx _ _ (e 4 (by decide))
/-- What is known of the best number, of the glyphs of so many parts. -/
def BestR (bs : List UInt8) (rs : List RP) (i b : Nat) : Prop := (∀ j r id, j < i → rs[j]? = some r → (r.first : Int) ≤ id → id ≤ (r.last : Int) → (lkR bs rs id).1 ≤ b) ∧ (b = 0 ∨ ∃ id, (lkR bs rs id).1 = b)
theorem BestR.max {bs : List UInt8} {rs : List RP} {i b : Nat} (h : BestR bs rs i b) (id : Int) : BestR bs rs i (Nat.max b (lkR bs rs id).1) := by
  refine ⟨fun j r id' h1 h2 h3 h4 => Nat.le_trans (h.1 j r id' h1 h2 h3 h4) (Nat.le_max_left _ _), ?_⟩
  rcases Nat.le_total b (lkR bs rs id).1 with hle | hle
  · exact .inr ⟨id, (Nat.max_eq_right hle).symm⟩
  · rw [show Nat.max b (lkR bs rs id).1 = b from Nat.max_eq_left hle]; exact h.2
set_option maxRecDepth 100000 in
set_option maxHeartbeats 6400000 in
theorem refmost_any (a : Option Addr) (n c : Nat) (bs : List UInt8) (glyphs size : Nat) (a' : Option Addr) (c' : Nat) (rs : List RP) (w : World) (h : Has w a (bytesV bs)) (hl : bs.length = n) (h20 : n ≤ 4000) (hr : Has w a' (encRs rs)) (hg : glyphs ≤ 65535) (hS : size = 2 ∨ size = 4) (hok : LkOk bs glyphs size rs) :
    Calls Try.prog 99 #[.agg #[.slice a n c, .slice a' rs.length c']] w fun e w' => e = .returned (.int .i64 (mostR bs rs : Nat)) ∧ Below w.heap.size w w' := by
  have hAC := allocC
  have hAF := allocF
  have hf := hok.fit hg hS
  have HGT := Lib.hid (fun (id : Int) (hid : -9223372036854775808 ≤ id ∧ id ≤ 9223372036854775807) (W : World) (hW : Below w.heap.size w W) => reflkgetS a n c bs glyphs size a' c' rs id W (h.below hW) hl h20 (hr.below hW) hg hS hok hid)
  have HR := Lib.hid hr
  have HF := Lib.hid hf
  have HEA := Lib.hid (fun r (hr : r ∈ rs) => ((hok.rows.each hg hS).2 r hr))
  have hlen := (hok.rows.each hg hS).1
  have HOW := Lib.hid (fun (j : Nat) (r : RP) (hj : rs[j]? = some r) => show (if r.own = true then r.size else 0) = 0 ↔ r.own = false from by
    obtain ⟨_, h2⟩ := (hok.rows.each hg hS).2 r (List.mem_of_getElem? hj)
    cases r.own <;> simp <;> omega)
  have HRI := Lib.hid (fun (j : Nat) (r : RP) (hj : rs[j]? = some r) => show r.first ≤ r.last from by
    obtain ⟨m, hm⟩ := tabR_part (bs := bs) hj
    exact hf.rising.2 _ (List.mem_of_getElem? hm))
  obtain ⟨k, hk⟩ : ∃ k, k = rs.length := ⟨_, rfl⟩
  have HKL := Lib.hid hk
  rw [← hk] at hlen HGT ⊢
  clear h hr hok hf hl hk
  obtain ⟨W, hW⟩ : ∃ W, W = w.alloc (Obj.cells #[.slice a n c, .slice a' k c'] 42) := ⟨_, rfl⟩
  have hbW : Below w.heap.size w W := by rw [hW]; exact balloc (brefl _) _
  have x1 : W.heap[w.heap.size]? = some (.cells #[.slice a n c, .slice a' k c'] 42 (0, 0)) := by rw [hW]; exact (heap_push _ _ _).trans (if_pos rfl)
  have X1 := Lib.hid x1
  have l1 := (Array.getElem?_eq_some_iff.1 x1).1
  have HBW := Lib.hid hbW
  have hwW := hbW.size
  clear x1 hbW
  go_enter Try.func99, Try.ntmps99
  go_wp2_with fail
  rw [← hW]
  clear hW
  go_loopw [3, 4] (fun v i wr => ∃ (b j : Nat), v = .int .i64 (b : Nat) ∧ i = .int .i64 (j : Nat) ∧ j ≤ k ∧ b ≤ 4294967295 ∧ BestR bs rs j b ∧ Below W.heap.size W wr) (fun _ i _ => k - (Go.RowKit.intOf i).toNat)
  case atStart => exact ⟨0, 0, rfl, rfl, Nat.zero_le _, by omega, ⟨fun j r id h => (by omega), .inl rfl⟩, brefl _⟩
  case round =>
    obtain ⟨b, j, rfl, rfl, hj, hb4, hbest, hb⟩ := hrel
    rename World => wr
    have HBE := Lib.hid hbest
    have HB := Lib.hid hb
    have x1 := (hb.block _ l1).trans X1.out
    have q1 := fun o => cell_of_heap x1 o
    have lr1 := (Array.getElem?_eq_some_iff.1 x1).1
    have hzr := hb.size
    clear hbest hb x1
    by_cases hlt : j < k
    · have hjr := List.getElem?_eq_getElem (show j < rs.length by rw [← HKL.out]; exact hlt)
      generalize rs[j]'(by rw [← HKL.out]; exact hlt) = r at hjr
      have HJ := Lib.hid hjr
      have hea := (HEA.out r (List.mem_of_getElem? hjr)).1
      have hri := HRI.out j r hjr
      have how := HOW.out j r hjr
      obtain ⟨gp, op, hpa, hgp, c0, c1, c2, c3, c4⟩ := part_at (HR.out.below (HBW.out.trans (HB.out.mono hwW))) hjr
      obtain ⟨st, hst⟩ : ∃ st, st = (if r.own = true then r.size else 0) := ⟨_, rfl⟩
      rw [← hst] at c4 how
      have HOWN := Lib.hid how
      subst hpa
      obtain ⟨V, hV⟩ : ∃ V, V = wr.alloc (Obj.cells #[.int .i64 (r.first : Nat), .int .i64 (r.last : Nat), .int .i64 (r.at_ : Nat), .int .i64 (r.size : Nat), .int .i64 (st : Nat)] 222) := ⟨_, rfl⟩
      have hbV : Below wr.heap.size wr V := by rw [hV]; exact balloc (brefl _) _
      have x5 : V.heap[wr.heap.size]? = some (.cells #[.int .i64 (r.first : Nat), .int .i64 (r.last : Nat), .int .i64 (r.at_ : Nat), .int .i64 (r.size : Nat), .int .i64 (st : Nat)] 222 (0, 0)) := by rw [hV]; exact (heap_push _ _ _).trans (if_pos rfl)
      have hV' := hV
      clear how hst hjr
      go_wp2_with fail
      rw [← hV']
      clear hV hV'
      have X5 := Lib.hid x5
      have l5 := (Array.getElem?_eq_some_iff.1 x5).1
      have x1 := (hbV.block _ lr1).trans ((HB.out.block _ l1).trans X1.out)
      have XV1 := Lib.hid x1
      have lV1 := (Array.getElem?_eq_some_iff.1 x1).1
      have HBV := Lib.hid (HB.out.trans (hbV.mono hzr))
      have hzV := hbV.size
      clear hbV x5 x1 q1 c0 c1 c2 c3 c4
      go_loopw [3, 6] (fun v i wq => ∃ (b z : Nat), v = .int .i64 (b : Nat) ∧ i = .int .i64 (z : Nat) ∧ r.first ≤ z ∧ z ≤ r.last + 1 ∧ b ≤ 4294967295 ∧ BestR bs rs j b ∧ (∀ id : Int, (r.first : Int) ≤ id → id < (z : Int) → (lkR bs rs id).1 ≤ b) ∧ Below V.heap.size V wq) (fun _ i _ => r.last + 1 - (Go.RowKit.intOf i).toNat)
      case atStart => exact ⟨b, r.first, rfl, rfl, Nat.le_refl _, by omega, hb4, HBE.out, fun id h1 h2 => (by omega), brefl _⟩
      case round =>
        obtain ⟨b2, z, rfl, rfl, hz1, hz2, hb24, hbest2, hall, hbq⟩ := hrel
        rename World => wq
        have HBE2 := Lib.hid hbest2
        have HALL := Lib.hid hall
        have HBQ := Lib.hid hbq
        have y1 := (hbq.block _ lV1).trans XV1.out
        have y5 := (hbq.block _ l5).trans X5.out
        have q1 := fun o => cell_of_heap y1 o
        have q5 := fun o => cell_of_heap y5 o
        have lq1 := (Array.getElem?_eq_some_iff.1 y1).1
        have lq5 := (Array.getElem?_eq_some_iff.1 y5).1
        have Y5 := Lib.hid y5
        have hzq := hbq.size
        clear hbest2 hall hbq y1 y5
        by_cases hzt : z ≤ r.last
        · have hlk := lkR_le' HF.out (z : Int)
          have HGZ := Lib.hid (fun (U : World) (hU : Below wq.heap.size wq U) => HGT.out (z : Int) (by omega) U (HBW.out.trans ((HBV.out.trans ((HBQ.out.trans (hU.mono hzq)).mono (Nat.le_trans hzr hzV))).mono hwW)))
          have HBM := Lib.hid (HBE2.out.max (z : Int))
          obtain ⟨y, hy⟩ : ∃ y, y = (lkR bs rs (z : Int)).1 := ⟨_, rfl⟩
          obtain ⟨m, hm⟩ : ∃ m, m = Nat.max b2 y := ⟨_, rfl⟩
          rw [← hy] at HGZ HBM hlk
          rw [← hm] at HBM
          have hmy : y ≤ m := by rw [hm]; exact Nat.le_max_right _ _
          have hmb : b2 ≤ m := by rw [hm]; exact Nat.le_max_left _ _
          have hm4 : m ≤ 4294967295 := by rw [hm]; exact Nat.max_le.2 ⟨hb24, hlk⟩
          have HY := Lib.hid hy
          have hmm : (m = y ∧ b2 < y) ∨ (m = b2 ∧ ¬ b2 < y) := by
            rcases Nat.lt_or_ge b2 y with h | h
            · exact .inl ⟨by rw [hm]; exact Nat.max_eq_right (by omega), h⟩
            · exact .inr ⟨by rw [hm]; exact Nat.max_eq_left h, by omega⟩
          have HNX := Lib.hid (show ∀ id : Int, (r.first : Int) ≤ id → id < ((z + 1 : Nat) : Int) → (lkR bs rs id).1 ≤ m from fun id h1 h2 => by
            rcases Int.lt_or_le id (z : Int) with h3 | h3
            · have := HALL.out id h1 h3; omega
            · obtain rfl : id = (z : Int) := by omega
              rw [← HY.out]; exact hmy)
          clear hy hm
          have w1 : IntKind.i64.wrap ((z : Int) + 1) = (z : Int) + 1 := IntWalk.i64_in _ (by omega)
          have w2 : IntKind.i64.wrap ((r.last : Int) + 1) = (r.last : Int) + 1 := IntWalk.i64_in _ (by omega)
          by_cases hst0 : st = 0
          · have hown := HOWN.out.1 hst0
            have d0 : ((st : Int) == 0) = true := by simp; exact hst0
            clear hst0
            have HNT := Lib.hid (show ∀ id : Int, (r.first : Int) ≤ id → id < ((r.last + 1 : Nat) : Int) → (lkR bs rs id).1 ≤ m from fun id h1 h2 => by
              rw [lkR_one HF.out HJ.out hown (by omega) (by omega), ← lkR_one HF.out HJ.out hown (id := (z : Int)) (by omega) (by omega), ← HY.out]
              exact hmy)
            rcases hmm with ⟨em, hle⟩ | ⟨em, hle⟩
            · subst em
              go_wp2_with (go_at_call 104; (with_reducible refine (HGZ.out _ (by exact blw)).mono ?_); rintro e w9 ⟨rfl, hb9⟩; have HB9 := Lib.hid (show Below wq.heap.size wq w9 from by exact blw); have y5 := (hb9.block _ lq5).trans Y5.out; have q5 := (fun o => cell_of_heap y5 o); have lq9 := (Array.getElem?_eq_some_iff.1 y5).1; clear hb9 y5)
              all_goals try (exfalso; omega)
              go_roundw
              case rel => exact ⟨_, r.last + 1, rfl, by go_num, by omega, Nat.le_refl _, hm4, HBM.out, HNT.out, HBQ.out.trans (HB9.out.mono hzq)⟩
              case measure => simp [Go.RowKit.intOf]; omega
            · subst em
              go_wp2_with (go_at_call 104; (with_reducible refine (HGZ.out _ (by exact blw)).mono ?_); rintro e w9 ⟨rfl, hb9⟩; have HB9 := Lib.hid (show Below wq.heap.size wq w9 from by exact blw); have y5 := (hb9.block _ lq5).trans Y5.out; have q5 := (fun o => cell_of_heap y5 o); have lq9 := (Array.getElem?_eq_some_iff.1 y5).1; clear hb9 y5)
              all_goals try (exfalso; omega)
              go_roundw
              case rel => exact ⟨_, r.last + 1, rfl, by go_num, by omega, Nat.le_refl _, hm4, HBM.out, HNT.out, HBQ.out.trans (HB9.out.mono hzq)⟩
              case measure => simp [Go.RowKit.intOf]; omega
          · have d0 : ((st : Int) == 0) = false := by simp; omega
            have d0n : (st == 0) = false := by simp; omega
            rcases hmm with ⟨em, hle⟩ | ⟨em, hle⟩
            · subst em
              go_wp2_with (go_at_call 104; (with_reducible refine (HGZ.out _ (by exact blw)).mono ?_); rintro e w9 ⟨rfl, hb9⟩; have HB9 := Lib.hid (show Below wq.heap.size wq w9 from by exact blw); have y5 := (hb9.block _ lq5).trans Y5.out; have q5 := (fun o => cell_of_heap y5 o); have lq9 := (Array.getElem?_eq_some_iff.1 y5).1; clear hb9 y5)
              all_goals try (exfalso; omega)
              go_roundw
              case rel => exact ⟨_, z + 1, rfl, by go_num, by omega, by omega, hm4, HBM.out, HNX.out, HBQ.out.trans (HB9.out.mono hzq)⟩
              case measure => simp [Go.RowKit.intOf]; omega
            · subst em
              go_wp2_with (go_at_call 104; (with_reducible refine (HGZ.out _ (by exact blw)).mono ?_); rintro e w9 ⟨rfl, hb9⟩; have HB9 := Lib.hid (show Below wq.heap.size wq w9 from by exact blw); have y5 := (hb9.block _ lq5).trans Y5.out; have q5 := (fun o => cell_of_heap y5 o); have lq9 := (Array.getElem?_eq_some_iff.1 y5).1; clear hb9 y5)
              all_goals try (exfalso; omega)
              go_roundw
              case rel => exact ⟨_, z + 1, rfl, by go_num, by omega, by omega, hm4, HBM.out, HNX.out, HBQ.out.trans (HB9.out.mono hzq)⟩
              case measure => simp [Go.RowKit.intOf]; omega
        · obtain rfl : z = r.last + 1 := by omega
          have HNB := Lib.hid (show BestR bs rs (j + 1) b2 from ⟨fun j' r' id h1 h2 h3 h4 => by
            by_cases e : j' = j
            · subst e
              rw [HJ.out] at h2
              cases h2
              exact HALL.out id (by omega) (by omega)
            · exact HBE2.out.1 j' r' id (by omega) h2 h3 h4, HBE2.out.2⟩)
          go_wp2_with fail
          go_roundw
          case rel => exact ⟨b2, j + 1, rfl, by go_num, hlt, hb24, HNB.out, HBV.out.trans (HBQ.out.mono (Nat.le_trans hzr hzV))⟩
          case measure => simp [Go.RowKit.intOf]; omega
    · obtain rfl : k = j := by omega
      have HM := Lib.hid (show b = mostR bs rs from most_is HF.out (fun id hid => by
        obtain ⟨j', r', h1, h2, h3⟩ := lkR_in hid
        exact HBE.out.1 j' r' id (by rw [HKL.out]; exact (List.getElem?_eq_some_iff.1 h1).1) h1 h2 h3) HBE.out.2)
      go_wp2_with fail
      go_ret
      exact ⟨by rw [← HM.out]; rfl, HBW.out.trans (HB.out.mono hwW)⟩
end Go.Proofs.Ytbicnkopmamnpaa
end
