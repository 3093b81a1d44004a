/- Joined from: PrSpk. -/
import Derived.Test.YtbicnkopmamnpaaJ01
import Derived.Test.YtbicnkopmamnpaaJ15
section

/- A List of pairs by its bytes: whether they rise, and each one's distance; layer 22's speaks. No condition. -/
namespace Go.Proofs.Ytbicnkopmamnpaa
open Go.RowKit Go.Lib

def RisesP (l : List PrT) : Prop := ∀ (i : Nat) (p q : PrT), l[i]? = some p → l[i + 1]? = some q → p.1 * 65536 + p.2.1 < q.1 * 65536 + q.2.1
theorem listB_ok (l : List PrT) (hn : l.length ≤ 65535) (hok : ∀ p ∈ l, PrT.ok p) : PListOk (listB l) ↔ RisesP l := by
  constructor
  · intro h i p q hp hq
    have := h.rise i (by rw [listB_n l hn]; exact (List.getElem?_eq_some_iff.1 hq).1)
    rw [(listB_at hp (hok p (List.mem_of_getElem? hp))).2.2.2, (listB_at hq (hok q (List.mem_of_getElem? hq))).2.2.2] at this
    exact this
  · intro h
    refine ⟨by rw [listB_n l hn, listB_length]; exact Nat.le_refl _, fun i hi => ?_⟩
    rw [listB_n l hn] at hi
    have hp := List.getElem?_eq_getElem (show i < l.length by omega)
    have hq := List.getElem?_eq_getElem hi
    rw [(listB_at hp (hok _ (List.mem_of_getElem? hp))).2.2.2, (listB_at hq (hok _ (List.mem_of_getElem? hq))).2.2.2]
    exact h i _ _ hp hq
theorem distP_in {l : List PrT} (hn : l.length ≤ 65535) (hok : ∀ p ∈ l, PrT.ok p) (h : PListOk (listB l)) {i : Nat} {p : PrT} (hp : l[i]? = some p) : distP (listB l) (p.1 : Nat) (p.2.1 : Nat) = p.2.2 := by
  have hpo := hok p (List.mem_of_getElem? hp)
  obtain ⟨_, _, e3, e4⟩ := listB_at hp hpo
  rw [distP_at h (by rw [listB_n l hn]; exact (List.getElem?_eq_some_iff.1 hp).1) hpo.1 hpo.2.1 e4, e3, s16_m16 hpo.2.2]
theorem distP_out {l : List PrT} (hn : l.length ≤ 65535) (hok : ∀ p ∈ l, PrT.ok p) {x y : Int} (h : ∀ p ∈ l, ¬ ((p.1 : Int) = x ∧ (p.2.1 : Int) = y)) : distP (listB l) x y = 0 := by
  refine distP_no fun i hi ⟨h1, h2⟩ => ?_
  rw [listB_n l hn] at hi
  have hp := List.getElem?_eq_getElem hi
  obtain ⟨e1, e2, _⟩ := listB_at hp (hok _ (List.mem_of_getElem? hp))
  rw [e1] at h1
  rw [e2] at h2
  exact h _ (List.mem_of_getElem? hp) ⟨h1, h2⟩
/-- Read of a List that was written. -/
theorem pread_list (l : List PrT) (hn : l.length ≤ 1000) (hok : ∀ p ∈ l, PrT.ok p) (a : Option Addr) (n c : Nat) (glyphs : Nat) (zg : Int) (hzg : zg = (glyphs : Nat)) (hg1 : 1 ≤ glyphs) (hg2 : glyphs ≤ 65535) (w : World) (h : Has w a (bytesV (listB l))) (hl : 16 + 6 * l.length = n) :
    Calls Try.prog 53 #[.int .i64 0, .slice a n c, .int .i64 zg] w fun e w' => ((RisesP l ∧ ∃ g, e = .returned (.tuple #[.pointer (some ⟨g, 0, none⟩), .int .i64 0]) ∧ PrIs (spR w.heap.size) w.heap.size g (listB l) 0 [] [] w') ∨ (¬ RisesP l ∧ e = .returned (.tuple #[.pointer none, .int .i64 2]))) ∧ Below w.heap.size w w' := by
  subst hzg
  refine (pread_any 0 a n c (listB l) (glyphs : Nat) w h (by rw [listB_length]; exact hl) (by omega)).mono ?_
  rintro e w' ⟨(⟨hb, _⟩ | ⟨_, hno, he⟩ | ⟨_, r1, r2, g, hok', he, hp⟩), hb⟩
  · unfold badP at hb; omega
  · exact ⟨.inr ⟨fun hr => hno [] [] (.inl ⟨rfl, (listB_ok l (by omega) hok).2 hr, rfl, rfl⟩), he⟩, hb⟩
  · rcases hok' with ⟨_, hlo, rfl, rfl⟩ | ⟨h2, _⟩ | ⟨h6, _⟩
    · exact ⟨.inl ⟨(listB_ok l (by omega) hok).1 hlo, g, he, hp⟩, hb⟩
    · omega
    · omega
theorem pget_list {l : List PrT} (hn : l.length ≤ 1000) (hok : ∀ p ∈ l, PrT.ok p) (hr : RisesP l) (M : Nat → Nat → Prop) (B gx : Nat) (x y : Int) (w : World) (h : PrIs M B gx (listB l) 0 [] [] w) (hx : -9223372036854775808 ≤ x ∧ x ≤ 9223372036854775807) (hy : -9223372036854775808 ≤ y ∧ y ≤ 9223372036854775807) :
    Calls Try.prog 55 #[.pointer (some ⟨gx, 0, none⟩), .int .i64 x, .int .i64 y] w fun e w' => e = .returned (.int .i64 (distP (listB l) x y)) ∧ Below w.heap.size w w' :=
  pget_any M B gx (listB l) 0 9 [] [] x y w h (.inl ⟨rfl, (listB_ok l (by omega) hok).2 hr, rfl, rfl⟩) (by decide) hx hy
theorem eqPtn (w : World) (p : Addr) : (binOp .neq 100 (.pointer (some p)) (.pointer none)).run Try.prog w = .ok (.bool true) w := by kernel_rfl
theorem eqPte (w : World) (p : Addr) : (binOp .eql 100 (.pointer (some p)) (.pointer none)).run Try.prog w = .ok (.bool false) w := by kernel_rfl
theorem eqPne (w : World) : (binOp .eql 100 (.pointer none) (.pointer none)).run Try.prog w = .ok (.bool true) w := by kernel_rfl
def onePr : List PrT := [(5, 6, -20)]
theorem onePr_ok : ∀ p ∈ onePr, PrT.ok p := by
  intro p hp
  simp [onePr] at hp
  subst hp
  simp [PrT.ok]
theorem onePr_rises : RisesP onePr := fun i p q _ hq => by
  have := (List.getElem?_eq_some_iff.1 hq).1
  simp [onePr] at this
set_option maxRecDepth 100000 in
set_option maxHeartbeats 3200000 in
theorem speaks22_any (w : World) : Calls Try.prog 52 #[] w fun e w' => e = .returned (.bool true) ∧ Below w.heap.size w w' := by
  have hAC := allocC
  have hAF := allocF
  have h1 := eqPtn
  have HW := Lib.hid (fun W (a : Option Addr) (hW : Has W a (prV onePr)) => write22_any a 1 1 onePr W hW rfl (by decide) onePr_ok)
  have d1 : distP (listB onePr) 5 6 = -20 := distP_in (l := onePr) (by decide) onePr_ok ((listB_ok onePr (by decide) onePr_ok).2 onePr_rises) (i := 0) (p := (5, 6, -20)) rfl
  have d2 : distP (listB onePr) 6 5 = 0 := distP_out (by decide) onePr_ok (by intro p hp; simp [onePr] at hp; subst hp; simp)
  have HG := Lib.hid (fun (x y : Int) M B g W hx hy h => pget_list (l := onePr) (by decide) onePr_ok onePr_rises M B g x y W h hx hy)
  have HA := Lib.hid (show Has (w.alloc (Obj.cells #[.int .u16 5, .int .u16 6, .int .i16 (-20)] 114)) (some ⟨w.heap.size, 0, none⟩) (prV onePr) from has_alloc w _ _)
  go_enter Try.func52, Try.ntmps52
  go_wp2_with (first
    | (go_at_call 57; (with_reducible refine (HW.out _ _ HA.out).mono ?_); rintro e w1 ⟨a1, c1, rfl, ho1, _, _, _, hb1⟩; have HO1 := Lib.hid (has_of_owns ho1); have HB1 := Lib.hid (show Below w.heap.size w w1 from by exact blw); clear ho1 hb1)
    | (go_at_call 53; (with_reducible refine (pread_list onePr (by decide) onePr_ok a1 22 c1 9 9 rfl (by decide) (by decide) w1 HO1.out rfl).mono ?_); rintro e w2 ⟨(⟨_, g, rfl, hp⟩ | ⟨hno, _⟩), hb2⟩; rotate_left; (exact absurd onePr_rises hno); have HP2 := Lib.hid hp; have HB2 := Lib.hid (HB1.out.trans (hb2.mono HB1.out.size)); clear hp hb2)
    | (go_at_call 55; (with_reducible refine (HG.out 5 6 _ _ g w2 (by decide) (by decide) HP2.out).mono ?_); rintro e w3 ⟨rfl, hb3⟩; rw [d1]; have HP3 := Lib.hid (HP2.out.below hb3); have HB3 := Lib.hid (HB2.out.trans (hb3.mono HB2.out.size)); clear hb3)
    | (go_at_call 55; (with_reducible refine (HG.out 6 5 _ _ g w3 (by decide) (by decide) HP3.out).mono ?_); rintro e w4 ⟨rfl, hb4⟩; rw [d2]; have HB4 := Lib.hid (HB3.out.trans (hb4.mono HB3.out.size)); clear hb4))
  go_ret
  exact ⟨by first | rfl | simp, HB4.out⟩
end Go.Proofs.Ytbicnkopmamnpaa
end
