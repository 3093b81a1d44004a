/- Joined from: RTake. -/
import Derived.Test.YtlhnfpkenlenjaaDoorJ18
import Derived.Test.YtlhnfpkenlenjaaDoorJ01
section

/- rear.Take, and the function within law 14's RearTakes: a subtable of a View. What a subtable and a line are behind a Run along another line. Conditions: as many bytes as the slice says. -/
namespace Go.Proofs.YtlhnfpkenlenjaaDoor
open Go.RowKit Go.Lib

set_option maxRecDepth 100000 in
theorem rtake_ok (a : Option Addr) (n c : Nat) (bs : List UInt8) (rs : List RP) (S : Nat) (w : World) (h : Has w a (bytesV bs)) (hl : bs.length = n) (hn : n ≤ c) (hc : c ≤ maxLen) (hok : MOk bs 40 0 rs S) :
    Calls Tryd.prog 21 #[.agg #[.slice a n c], .int .i64 40] w fun e w' => ∃ gt, e = .returned (.pointer (some ⟨gt, 0, none⟩)) ∧ TIs w.heap.size gt bs rs S w' ∧ Below w.heap.size w w' := by
  have hAC := allocC
  have hAF := allocF
  have HH := Lib.hid h
  have HT := Lib.hid (fun W (hW : Has W a (bytesV bs)) => show Calls Tryd.prog 42 #[.agg #[.slice a n c], .int .i64 40, .int .i64 0] W fun e w' => ∃ g, e = .returned (.pointer (some ⟨g, 0, none⟩)) ∧ MIs W.heap.size g bs 0 rs S w' ∧ Below W.heap.size W w' from mtake_ok a n c bs 40 0 rs S W hW hl hn hc (by decide) (by decide) (by decide) hok)
  clear h hl hok
  go_enter Tryd.func21, Tryd.ntmps21
  go_wp2_with (go_at_call 42; (with_reducible refine (HT.out _ (HH.out.below (by exact blw))).mono ?_); rintro e w1 ⟨g, rfl, hM, hb1⟩; have HM := Lib.hid hM; have hz1 := hb1.size; clear hM)
  go_ret
  refine ⟨_, rfl, ⟨⟨g, by rw [heap_push]; exact if_pos rfl, (HM.out.below (balloc (brefl _) _)).mono (by simp)⟩, by simp only [World.size_alloc] at hz1; omega⟩, blw⟩
set_option maxRecDepth 100000 in
theorem rtake_bad (a : Option Addr) (n c : Nat) (bs : List UInt8) (w : World) (h : Has w a (bytesV bs)) (hl : bs.length = n) (hn : n ≤ c) (hc : c ≤ maxLen) (hno : ∀ rs S, ¬ MOk bs 40 0 rs S) :
    Calls Tryd.prog 21 #[.agg #[.slice a n c], .int .i64 40] w fun e w' => e = .panicked thrown ∧ Below w.heap.size w w' := by
  have hAC := allocC
  have hAF := allocF
  have HH := Lib.hid h
  have HT := Lib.hid (fun W (hW : Has W a (bytesV bs)) => show Calls Tryd.prog 42 #[.agg #[.slice a n c], .int .i64 40, .int .i64 0] W fun e w' => e = .panicked thrown ∧ Below W.heap.size W w' from mtake_bad a n c bs 40 0 W hW hl hn hc (by decide) (by decide) (by decide) hno)
  clear h hl hno
  go_enter Tryd.func21, Tryd.ntmps21
  go_wp2_with (go_at_call 42; (with_reducible refine (HT.out _ (HH.out.below (by exact blw))).mono ?_); rintro e w1 ⟨rfl, hb1⟩)
  exact ⟨rfl, rfl, blw⟩
theorem TIs.setOther {B gt g3 : Nat} {bs : List UInt8} {rs : List RP} {S : Nat} {w : World} {cs : Array Value} {fz : Nat × Nat} (h : TIs B gt bs rs S w) (hw : w.heap[g3]? = some (.cells cs 31 fz)) (v : Value) : TIs B gt bs rs S (w.setCell ⟨g3, 0, none⟩ v) := by
  obtain ⟨⟨g, h1, h2⟩, h3⟩ := h
  refine ⟨⟨g, ?_, h2.setOther (o := 0) hw (by refine ⟨fun k h => ?_, fun k h => ?_, fun k h => ?_, fun k h => ?_, fun k h => ?_, fun k h => ?_, fun k h => ?_⟩ <;> · simp at h) v⟩, h3⟩
  refine (set_heap_other _ ?_).trans h1
  rintro rfl
  rw [h1] at hw
  injection hw with hw
  injection hw with _ h4 _
  exact absurd h4 (by decide)
theorem TIs.mono {B B' gt : Nat} {bs : List UInt8} {rs : List RP} {S : Nat} {w : World} (h : TIs B gt bs rs S w) (hb : B' ≤ B) : TIs B' gt bs rs S w := by
  obtain ⟨⟨g, h1, h2⟩, h3⟩ := h
  exact ⟨⟨g, h1, h2.mono hb⟩, Nat.le_trans hb h3⟩
theorem TIs.keep {B gt B0 g5 g6 : Nat} {bk : Option Nat} {bs : List UInt8} {rs : List RP} {S : Nat} {w w' : World} (h : TIs B gt bs rs S w) (hk : KeepC B0 (ownR bk g5 g6) w w') : TIs B gt bs rs S w' := by
  obtain ⟨⟨g, h1, h2⟩, h3⟩ := h
  exact ⟨⟨g, (hk.kept _ _ _ _ h1 (by rintro (⟨h, _⟩ | ⟨h, _⟩) <;> exact absurd h (by decide))).trans h1, h2.keepO hk (ownR_notM _ _ _)⟩, h3⟩
theorem GIs.keepR {B g c B0 g5 g6 : Nat} {a : Option Addr} {l : List (Int × Int)} {bk : Option Nat} {w w' : World} (h : GIs B g a c l w) (hk : KeepC B0 (ownR bk g5 g6) w w') (hne : ∀ k, a.map (·.block) = some k → bk ≠ some k) : GIs B g a c l w' := by
  refine ⟨(hk.kept _ _ _ _ h.hd (by rintro (⟨h, _⟩ | ⟨h, _⟩) <;> exact absurd h (by decide))).trans h.hd, h.row.1, ?_⟩
  rcases h.row.2 with h2 | ⟨b, cap, cur, hv, hg, hh, r⟩
  · exact .inl h2
  · refine .inr ⟨b, cap, cur, hv, hg, ?_, r⟩
    have ha : a.map (·.block) = some b := by
      injection hv with hv _ _
      rw [hv]; rfl
    rw [hk.kept b _ _ _ hh (by
      rintro (⟨_, h⟩ | ⟨h, _⟩)
      · exact hne b ha h
      · exact absurd h (by decide))]
    exact hh
/-- What the function within RearTakes leaves. -/
def RTake1 (B : Nat) (w : World) (g3 : Nat) (bs : List UInt8) (ok : Bool) (w' : World) : Prop :=
  (ok = true ∧ ∃ rs S gt, MOk bs 40 0 rs S ∧ w'.heap[g3]? = some (.cells #[.pointer (some ⟨gt, 0, none⟩)] 31 (0, 0)) ∧ TIs w.heap.size gt bs rs S w' ∧ Below B w w' ∧ w.heap.size ≤ w'.heap.size) ∨
  (ok = false ∧ (∀ rs S, ¬ MOk bs 40 0 rs S) ∧ Below w.heap.size w w')
theorem enter_rt1 (args : Array Value) (w : World) : (callFunc 20 args).run Tryd.prog w = .ok (.enter 20 args) w := by kernel_rfl
set_option maxRecDepth 100000 in
set_option maxHeartbeats 1600000 in
theorem rt1_any (B : Nat) (a : Option Addr) (n c : Nat) (bs : List UInt8) (g0 g3 : Nat) (x : Value) (w : World) (h : Has w a (bytesV bs)) (hl : bs.length = n) (hn : n ≤ c) (hc : c ≤ maxLen) (hB : B ≤ g3)
    (c0 : w.cell? ⟨g0, 0, none⟩ = some (.slice a n c))
    (c3 : w.heap[g3]? = some (.cells #[x] 31 (0, 0))) :
    Calls Tryd.prog 20 #[.pointer (some ⟨g0, 0, none⟩), .pointer (some ⟨g3, 0, none⟩)] w
      fun e w' => (e = .returned (.tuple #[]) ∧ RTake1 B w g3 bs true w') ∨ (e = .panicked thrown ∧ RTake1 B w g3 bs false w') := by
  have HH := Lib.hid h
  have HL := Lib.hid hl
  have C3 := Lib.hid c3
  have l0 := cell_lt c0
  have l3 := (Array.getElem?_eq_some_iff.1 c3).1
  simp only at l0 l3
  clear h hl c3
  by_cases hok : ∃ rs S, MOk bs 40 0 rs S
  · obtain ⟨rs, S, hok⟩ := hok
    have HOK := Lib.hid hok
    have HT := Lib.hid (fun W hw => rtake_ok a n c bs rs S W hw HL.out hn hc hok)
    clear hok
    go_enter Tryd.func20, Tryd.ntmps20
    go_wp2_with fail
    go_wp2_with (first | (go_at_call 22; (with_reducible refine (of_any _ _ _ _).mono ?_); rintro e wa ⟨rfl, hba⟩; have hac := bc hba; have haf := bf hba; have haz := hba.size; try simp only [World.size_alloc, World.size_drew] at haz) | (go_at_call 21; (with_reducible refine (HT.out _ (HH.out.below (by exact blw))).mono ?_); rintro e wb ⟨g, rfl, hown, hbb⟩; have hbz := hbb.size; have HOW := Lib.hid hown; have hB4 : Below w.heap.size w wb := blw; have c4b := (hB4.block g3 l3).trans C3.out; have q4 := cell_of_heap c4b 0; have f4 := froz_of_heap c4b 0; have HC4 := Lib.hid c4b; have HBB := Lib.hid hB4; clear hown hbb hB4 c4b))
    go_end0
    refine .inl ⟨rfl, .inl ⟨rfl, rs, S, g, HOK.out, set_heap_at _ HC4.out, ?_, (HBB.out.mono (Nat.le_of_lt (by omega))).setCell (p := ⟨g3, 0, none⟩) hB _, by have := HBB.out.size; simpa using this⟩⟩
    exact (HOW.out.setOther HC4.out (.pointer (some ⟨g, 0, none⟩))).mono (by omega)
  · have HNO := Lib.hid (show ∀ rs S, ¬ MOk bs 40 0 rs S from fun rs S ho => hok ⟨rs, S, ho⟩)
    have HT := Lib.hid (fun W hw => rtake_bad a n c bs W hw HL.out hn hc HNO.out)
    clear hok
    go_enter Tryd.func20, Tryd.ntmps20
    go_wp2_with fail
    go_wp2_with (first | (go_at_call 22; (with_reducible refine (of_any _ _ _ _).mono ?_); rintro e wa ⟨rfl, hba⟩; have hac := bc hba; have haf := bf hba; have haz := hba.size; try simp only [World.size_alloc, World.size_drew] at haz) | (go_at_call 21; (with_reducible refine (HT.out _ (HH.out.below (by exact blw))).mono ?_); rintro e wb ⟨rfl, hbb⟩))
    exact ⟨rfl, .inr ⟨rfl, .inr ⟨rfl, HNO.out, blw⟩⟩⟩
end Go.Proofs.YtlhnfpkenlenjaaDoor
end
