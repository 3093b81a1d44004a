/- Joined from: JRead JPush JPerf JRun. -/
import Derived.Test.YthehcbbdkiomnaaJ20
import Derived.Test.YthehcbbdkiomnaaJ01
import Derived.Test.YthehcbbdkiomnaaJ17
import Derived.Test.YthehcbbdkiomnaaShelf
import Derived.Test.YthehcbbdkiomnaaJ18
section

/- liga.Read: such a subtable that bytes begin with, upon bytes of its own. Conditions: as many bytes as the slice says, no more than a hundred million; glyphs as an int. -/
namespace Go.Proofs.Ythehcbbdkiomnaa
open Go.RowKit Go.Lib

theorem info_bytes : (Try.prog.info? 5).map (fun i => (i.zero, i.size, i.bytes)) = some (some (.int .u8 0), 1, 1) := by kernel_rfl
theorem nil_none (n c : Nat) (w : World) : (binOp .eql 22 (.slice none n c) (.slice none 0 0)).run Try.prog w = .ok (.bool true) w := by kernel_rfl
theorem nil_some (p : Addr) (n c : Nat) (w : World) : (binOp .eql 22 (.slice (some p) n c) (.slice none 0 0)).run Try.prog w = .ok (.bool false) w := by kernel_rfl
set_option maxRecDepth 100000 in
set_option maxHeartbeats 1600000 in
theorem bclone_any (a : Option Addr) (n c : Nat) (bs : List UInt8) (w : World) (h : Has w a (bytesV bs)) (hl : bs.length = n) (hsz : n ≤ 100000000) :
    Calls Try.prog 33 #[.slice a n c] w fun e w' => ∃ a' c', e = .returned (.slice a' n c') ∧ w'.ownsRow w.heap.size 5 1 (.slice a' n c') n (bytesV bs) ∧ n ≤ c' ∧ c' ≤ maxLen ∧ Below w.heap.size w w' := by
  have hAC := allocC
  have hAF := allocF
  have hN1 := nil_none
  have hN2 := nil_some
  have HH := Lib.hid h
  have HL := Lib.hid hl
  cases a with
  | none =>
    obtain rfl : bs = [] := by
      cases bs with
      | nil => rfl
      | cons x bs =>
        obtain ⟨p, hp, _⟩ := h 0 _ rfl
        cases hp
    obtain rfl : n = 0 := by rw [← hl]; rfl
    clear h hl
    go_enter Try.func33, Try.ntmps33
    go_wp2_with fail
    go_ret
    exact ⟨none, 0, rfl, World.ownsRow_nil _ _ _ _, Nat.le_refl _, Nat.zero_le _, brefl _⟩
  | some p =>
    clear h hl
    go_enter Try.func33, Try.ntmps33
    go_wp2_with (at_builtin; refine wpApp rfl _ _ 22 rfl w.heap.size 5 (.int .u8 0) 1 1 Try.underlying22 info_bytes rfl (by decide) _ 0 [] rfl (World.ownsRow_lit w #[] 0 (Nat.le_refl _) (by decide) rfl) (some p) n c (bytesV bs) rfl (by rw [bytesV_length, HL.out, Nat.mul_one]) (HH.out.below (balloc (brefl _) _)) (fun h => by cases h) (by intro u hu; simp only [bytesV, List.mem_map] at hu; obtain ⟨z, _, rfl⟩ := hu; rfl) (by unfold maxLen; omega) (by omega) (by simp) ?_; intro a' c' w' h1 h2 h3 h4 h5 h6; have H1 := Lib.hid h1; have H5 := Lib.hid h5; rw [Nat.zero_add] at h2; clear h1 h4 h5 h6)
    go_ret
    refine ⟨a', c', by first | rfl | (rw [Nat.zero_add]), ?_, h2, h3, ?_⟩
    · have := H1.out
      first | exact this | (rw [Nat.zero_add] at this; exact this)
    · exact (balloc (brefl w) _).trans H5.out
theorem JIs.setOther {L B gt g3 : Nat} {bs : List UInt8} {rs : List RP} {S : Nat} {w : World} {cs : Array Value} {fz : Nat × Nat} (h : JIs L B gt bs rs S w) (hw : w.heap[g3]? = some (.cells cs 25 fz)) (hL : L ≤ g3) (v : Value) : JIs L B gt bs rs S (w.setCell ⟨g3, 0, none⟩ v) := by
  obtain ⟨g, a, c, h1, h2, h3, h4, h5⟩ := h.is
  refine ⟨⟨g, a, c, ?_, h2.setOther (o := 0) hw (by refine ⟨fun k h => ?_, fun k h => ?_, fun k h => ?_, fun k h => ?_, fun k h => ?_, fun k h => ?_, fun k h => ?_⟩ <;> · simp at h) v, h3.setOther hw hL (by decide) v, h4, h5⟩, h.ge⟩
  refine (set_heap_other _ ?_).trans h1
  rintro rfl
  rw [h1] at hw
  injection hw with hw
  injection hw with _ h4 _
  exact absurd h4 (by decide)
def JRead1R (L B : Nat) (w : World) (g3 : Nat) (bs : List UInt8) (glyphs : Nat) (ok : Bool) (w' : World) : Prop :=
  (ok = true ∧ ∃ rs S g, JOk bs glyphs rs S ∧ w'.heap[g3]? = some (.cells #[.pointer (some ⟨g, 0, none⟩)] 25 (0, 0)) ∧ JIs L w.heap.size g bs rs S w' ∧ Below B w w' ∧ w.heap.size ≤ w'.heap.size) ∨
  (ok = false ∧ (∀ rs S, ¬ JOk bs glyphs rs S) ∧ Below w.heap.size w w')
theorem enter_jread1 (args : Array Value) (w : World) : (callFunc 34 args).run Try.prog w = .ok (.enter 34 args) w := by kernel_rfl
set_option maxRecDepth 100000 in
set_option maxHeartbeats 1600000 in
theorem jread1_any (L B : Nat) (a : Option Addr) (n c : Nat) (bs : List UInt8) (glyphs : Nat) (g0 g1 g3 : Nat) (x : Value) (w : World) (h : BHas L a bs w) (hl : bs.length = n) (hn : n ≤ c) (hc : c ≤ maxLen) (hg1 : 1 ≤ glyphs) (hg2 : glyphs ≤ 65535) (hB : B ≤ g3) (hL : L ≤ g3)
    (c0 : w.cell? ⟨g0, 0, none⟩ = some (.slice a n c)) (c1 : w.cell? ⟨g1, 0, none⟩ = some (.int .i64 (glyphs : Nat)))
    (c3 : w.heap[g3]? = some (.cells #[x] 25 (0, 0))) :
    Calls Try.prog 34 #[.pointer (some ⟨g0, 0, none⟩), .pointer (some ⟨g1, 0, none⟩), .pointer (some ⟨g3, 0, none⟩)] w
      fun e w' => (e = .returned (.tuple #[]) ∧ JRead1R L B w g3 bs glyphs true w') ∨ (e = .panicked thrown ∧ JRead1R L B w g3 bs glyphs false w') := by
  have HH := Lib.hid h
  have HL := Lib.hid hl
  have C3 := Lib.hid c3
  have l0 := cell_lt c0
  have l1 := cell_lt c1
  have l3 := (Array.getElem?_eq_some_iff.1 c3).1
  simp only at l0 l1
  clear h hl c3
  by_cases hok : ∃ rs S, JOk bs glyphs rs S
  · obtain ⟨rs, S, hok⟩ := hok
    have HOK := Lib.hid hok
    have HT := Lib.hid (fun W hw => jtake_ok L a n c bs glyphs rs S W hw HL.out hn hc hg1 hg2 hok)
    clear hok
    go_enter Try.func34, Try.ntmps34
    go_wp2_with (go_at_call 35; (with_reducible refine (HT.out _ (HH.out.below (by exact blw))).mono ?_); rintro e wb ⟨g, rfl, hown, hbb⟩; have hbz := hbb.size; have HOW := Lib.hid hown; have hB4 : Below w.heap.size w wb := blw; have c4b := (hB4.block g3 l3).trans C3.out; have q4 := cell_of_heap c4b 0; have f4 := froz_of_heap c4b 0; have HC4 := Lib.hid c4b; have HBB := Lib.hid hB4; clear hown hbb hB4 c4b)
    go_end0
    refine .inl ⟨rfl, .inl ⟨rfl, rs, S, g, HOK.out, set_heap_at _ HC4.out, ?_, (HBB.out.mono (Nat.le_of_lt (by omega))).setCell (p := ⟨g3, 0, none⟩) hB _, by have := HBB.out.size; simpa using this⟩⟩
    exact (HOW.out.setOther HC4.out hL (.pointer (some ⟨g, 0, none⟩))).mono (by omega)
  · have HNO := Lib.hid (show ∀ rs S, ¬ JOk bs glyphs rs S from fun rs S ho => hok ⟨rs, S, ho⟩)
    have HT := Lib.hid (fun W (hw : BHas L a bs W) => jtake_bad L a n c bs glyphs W hw.has (fun _ => hw) HL.out hn hc hg1 hg2 HNO.out)
    clear hok
    go_enter Try.func34, Try.ntmps34
    go_wp2_with ((go_at_call 35; (with_reducible refine (HT.out _ (HH.out.below (by exact blw))).mono ?_); rintro e wb ⟨rfl, hbb⟩; have hbc := bc hbb; have hbf := bf hbb; have hbz := hbb.size; try simp only [World.size_alloc, World.size_drew] at hbz))
    exact ⟨rfl, .inr ⟨rfl, .inr ⟨rfl, HNO.out, by exact blw⟩⟩⟩
def JRdIs (bs : List UInt8) (zg : Int) (w : World) (e : Ending) (w' : World) : Prop :=
  (((zg < 1 ∨ 65535 < zg) ∧ e = .returned (.tuple #[.pointer none, .int .i64 1])) ∨
   (1 ≤ zg ∧ zg ≤ 65535 ∧ (∀ rs S, ¬ JOk bs zg.toNat rs S) ∧ e = .returned (.tuple #[.pointer none, .int .i64 2])) ∨
   (1 ≤ zg ∧ zg ≤ 65535 ∧ ∃ rs S g, JOk bs zg.toNat rs S ∧ e = .returned (.tuple #[.pointer (some ⟨g, 0, none⟩), .int .i64 0]) ∧ JIs 0 w.heap.size g bs rs S w')) ∧ Below w.heap.size w w'
set_option maxRecDepth 100000 in
set_option maxHeartbeats 3200000 in
theorem jread_any (a : Option Addr) (n c : Nat) (bs : List UInt8) (zg : Int) (w : World) (h : Has w a (bytesV bs)) (hl : bs.length = n) (hsz : n ≤ 100000000) (hzg : -9223372036854775808 ≤ zg ∧ zg ≤ 9223372036854775807) :
    Calls Try.prog 11 #[.slice a n c, .int .i64 zg] w (JRdIs bs zg w) := by
  have HH := Lib.hid h
  have HL := Lib.hid hl
  clear h hl
  have hAC := allocC
  have hAF := allocF
  have hmf : ∀ (fn : Fn) (first cap : Array Value) (w : World), (Instr.makeFunc fn first cap).run Try.prog w = .ok (.func fn first cap) w := fun _ _ _ _ => rfl
  obtain ⟨hn1, hn2⟩ := hzg
  by_cases hb1 : zg < 1
  · go_enter Try.func11, Try.ntmps11
    go_wp2_with fail
    refine bodyPost_ret (v := .tuple #[.pointer none, .int .i64 1]) (by simp [results, Try.results11, go_sem, hAC, hAF]) rfl ?_
    exact ⟨.inl ⟨.inl hb1, rfl⟩, blw⟩
  by_cases hb2 : 65535 < zg
  · go_enter Try.func11, Try.ntmps11
    go_wp2_with fail
    refine bodyPost_ret (v := .tuple #[.pointer none, .int .i64 1]) (by simp [results, Try.results11, go_sem, hAC, hAF]) rfl ?_
    exact ⟨.inl ⟨.inr hb2, rfl⟩, blw⟩
  obtain ⟨G, rfl⟩ : ∃ G : Nat, zg = G := ⟨zg.toNat, by omega⟩
  have HBC := Lib.hid (fun W (hW : Below w.heap.size w W) => bclone_any a n c bs W (HH.out.below hW) HL.out hsz)
  have HOF := Lib.hid (fun a c W => of_any a n c W)
  go_enter Try.func11, Try.ntmps11
  go_wp2_with (first | (go_at_call 33; (with_reducible refine (HBC.out _ (by exact blw)).mono ?_); rintro e wa ⟨a', c', rfl, hown, hc1, hc2, hba⟩; have HOW := Lib.hid hown; have HBA := Lib.hid hba; have hza := hba.size; clear hown hba) | (go_at_call 31; (with_reducible refine (HOF.out _ _ _).mono ?_); rintro e wb ⟨rfl, hbb⟩; have HBB := Lib.hid hbb; have hzb := hbb.size; clear hbb))
  obtain ⟨A, hA⟩ : ∃ A, A = (w.alloc (Obj.cells #[.int .i64 (G : Nat)] 3)).alloc (Obj.cells #[.pointer none] 25) := ⟨_, rfl⟩
  have hbA : Below w.heap.size w A := by rw [hA]; exact balloc (balloc (brefl _) _) _
  have hzA : A.heap.size = w.heap.size + 2 := by rw [hA]; simp
  have hba := HBA.out
  have hbb := HBB.out
  rw [← hA] at hba
  have z1 : A.heap[w.heap.size]? = some (.cells #[.int .i64 (G : Nat)] 3 (0, 0)) := by rw [hA, heap_push, if_neg (by simp), heap_push, if_pos rfl]
  have z3 : A.heap[w.heap.size + 1]? = some (.cells #[.pointer none] 25 (0, 0)) := by rw [hA, heap_push, if_pos (by simp)]
  have hzw := hba.size
  have hzx := hbb.size
  obtain ⟨W, hW⟩ : ∃ W, W = wb.alloc (Obj.cells #[.slice a' n c'] 89) := ⟨_, rfl⟩
  have hbW : Below wb.heap.size wb W := by rw [hW]; exact balloc (brefl _) _
  have hAW : Below A.heap.size A W := bthen (bthen hba hbb) hbW
  have hb : Below w.heap.size w W := hbA.trans (hAW.mono hbA.size)
  have c0 : W.cell? ⟨wb.heap.size, 0, none⟩ = some (.slice a' n c') := by rw [hW]; exact cell_of_heap (heap_new wb (.slice a' n c') _) 0
  have c1 : W.cell? ⟨w.heap.size, 0, none⟩ = some (.int .i64 (G : Nat)) := cell_of_heap ((hAW.block _ (by omega)).trans z1) 0
  have c3 : W.heap[w.heap.size + 1]? = some (.cells #[.pointer none] 25 (0, 0)) := (hAW.block _ (by omega)).trans z3
  have hBH : BHas 0 a' bs W := ((BHas.of_owns HOW.out).below hbb).below hbW
  have hWz : w.heap.size + 2 ≤ W.heap.size := by have := hAW.size; omega
  rw [← hW]
  have HBH := Lib.hid hBH
  clear hW hA
  have HB := Lib.hid hb
  have HT := Lib.hid (try_any 34 _ W (JRead1R 0 w.heap.size W (w.heap.size + 1) bs G) (enter_jread1 _)
    (jread1_any 0 w.heap.size a' n c' bs G _ _ _ _ _ HBH.out HL.out hc1 hc2 (by omega) (by omega) (by omega) (Nat.zero_le _) c0 c1 c3))
  have C3 := Lib.hid c3
  clear c0 c1 c3 hb hBH z1 z3 hba hbb hbA hbW hAW hzA HBC HOF HBA HBB HOW
  refine HT.out.mono ?_
  rintro r w2 ⟨ok, rfl, (⟨rfl, rs, S, g, hok, hG, htb, hb2, hz2⟩ | ⟨rfl, hno, hb2⟩)⟩
  case inr =>
    have HNO := Lib.hid hno
    have HB2 := Lib.hid (HB.out.trans (hb2.mono HB.out.size))
    have q3 := cell_of_heap ((hb2.block (w.heap.size + 1) (by omega)).trans C3.out) 0
    have qf := fun o => froz_of_heap ((hb2.block (w.heap.size + 1) (by omega)).trans C3.out) o
    simp only [List.getElem?_toArray, List.getElem?_cons_zero] at q3
    have hl3 := cell_lt q3
    simp only at hl3
    clear hno hb2 HT
    go_wp2_with fail
    refine bodyPost_ret (v := .tuple #[.pointer none, .int .i64 2]) (by simp [results, Try.results11, go_sem, q3, qf]) rfl ?_
    exact ⟨.inr (.inl ⟨by omega, by omega, HNO.out, rfl⟩), HB2.out.setCell (p := ⟨w.heap.size + 1, 0, none⟩) (by show w.heap.size ≤ w.heap.size + 1; omega) _⟩
  have HOK := Lib.hid hok
  have HB2 := Lib.hid (HB.out.trans hb2)
  have HTB := Lib.hid ((htb.setOther hG (Nat.zero_le _) (.pointer (some ⟨g, 0, none⟩))).mono (show w.heap.size ≤ W.heap.size by omega))
  have q10 := cell_of_heap hG 0
  have qf := fun o => froz_of_heap hG o
  simp only [List.getElem?_toArray, List.getElem?_cons_zero] at q10
  have hgl := (Array.getElem?_eq_some_iff.1 hG).1
  clear hok hb2 hG htb HT hz2
  go_wp2_with fail
  refine bodyPost_ret (v := .tuple #[.pointer (some ⟨g, 0, none⟩), .int .i64 0]) (by simp [results, Try.results11, go_sem, q10, qf]) rfl ?_
  exact ⟨.inr (.inr ⟨by omega, by omega, rs, S, g, HOK.out, rfl, HTB.out⟩), HB2.out.setCell (p := ⟨w.heap.size + 1, 0, none⟩) (by show w.heap.size ≤ w.heap.size + 1; omega) _⟩
theorem jread_some (a : Option Addr) (n c : Nat) (bs : List UInt8) (glyphs : Nat) (zg : Int) (hzg : zg = (glyphs : Nat)) (rs : List RP) (S : Nat) (w : World) (h : Has w a (bytesV bs)) (hl : bs.length = n) (hsz : n ≤ 100000000) (hg1 : 1 ≤ glyphs) (hg2 : glyphs ≤ 65535) (hok : JOk bs glyphs rs S) :
    Calls Try.prog 11 #[.slice a n c, .int .i64 zg] w fun e w' => ∃ g, e = .returned (.tuple #[.pointer (some ⟨g, 0, none⟩), .int .i64 0]) ∧ JIs 0 w.heap.size g bs rs S w' ∧ Below w.heap.size w w' := by
  subst hzg
  refine (jread_any a n c bs _ w h hl hsz (by omega)).mono ?_
  rintro e w' ⟨(⟨hb, _⟩ | ⟨_, _, hno, _⟩ | ⟨_, _, rs', S', g, hr, he, ht⟩), hb'⟩
  · omega
  · exact absurd hok (hno rs S)
  · obtain ⟨rfl, rfl⟩ := hok.det hr
    exact ⟨g, he, ht, hb'⟩
theorem jread_none (a : Option Addr) (n c : Nat) (bs : List UInt8) (glyphs : Nat) (zg : Int) (hzg : zg = (glyphs : Nat)) (w : World) (h : Has w a (bytesV bs)) (hl : bs.length = n) (hsz : n ≤ 100000000) (hg1 : 1 ≤ glyphs) (hg2 : glyphs ≤ 65535) (hno : ∀ rs S, ¬ JOk bs glyphs rs S) :
    Calls Try.prog 11 #[.slice a n c, .int .i64 zg] w fun e w' => e = .returned (.tuple #[.pointer none, .int .i64 2]) ∧ Below w.heap.size w w' := by
  subst hzg
  refine (jread_any a n c bs _ w h hl hsz (by omega)).mono ?_
  rintro e w' ⟨(⟨hb, _⟩ | ⟨_, _, _, he⟩ | ⟨_, _, rs', S', g, hr, _, _⟩), hb'⟩
  · omega
  · exact ⟨he, hb'⟩
  · exact absurd hr (hno rs' S')
end Go.Proofs.Ythehcbbdkiomnaa
end
section

/- liga.push: the places that are kept, and one more. Conditions: a row of the call's own, of no more than sixty-four places. -/
namespace Go.Proofs.Ythehcbbdkiomnaa
open Go.RowKit Go.Shelf Go.Lib Go.Sort

def encZ (z : Int) : Value := .int .i64 z
theorem getZ (l : List Int) (j : Nat) (hj : j < l.length) : (iv l)[j]? = some (encZ (l.toArray[j]!)) := by
  rw [iv_get (List.getElem?_eq_getElem hj)]
  have e : l.toArray[j]! = l[j] := by rw [getElem!_pos _ _ (by simpa using hj)]; simp
  rw [e]
  rfl
theorem holds_ints {w : World} {B n c g : Nat} {l : List Int} (h : w.ownsRow B 3 1 (.slice (some ⟨g, 0, none⟩) n c) n (iv l)) (hl : l.length = n) : Holds encZ w g 0 l.toArray := by
  intro j hj
  have hj' : j < n * 1 := by simpa [hl] using hj
  refine ⟨?_, ?_⟩
  · rw [Nat.zero_add, h.cellAt j hj', getZ l j (by omega)]
  · rw [Nat.zero_add]; exact h.frozenAt j
theorem put_row_ints {w : World} {B n c g q : Nat} {l r : List Int} (h : w.ownsRow B 3 1 (.slice (some ⟨g, 0, none⟩) n c) n (iv l)) (hr : r.length = n) :
    (putRow encZ (Sort.ahead w q) g 0 r.toArray).ownsRow B 3 1 (.slice (some ⟨g, 0, none⟩) n c) n (iv r) ∧ RStep B (some ⟨g, 0, none⟩) (some ⟨g, 0, none⟩) w (putRow encZ (Sort.ahead w q) g 0 r.toArray) := by
  rcases h.2 with ⟨he, _⟩ | ⟨g', cap, cur, he, hB, hh, hnc, hcm, hcs, hct⟩
  · cases he
  · injection he with e1 _ e3
    cases e1
    subst e3
    have hhp : (putRow encZ (Sort.ahead w q) g 0 r.toArray).heap[g]? = some (.cells (Sort.putCells encZ 0 r.toArray cur) 3 (0, 0)) := by
      show (w.heap.modify g _)[g]? = _
      rw [Array.getElem?_modify, if_pos rfl, hh]
      rfl
    have hot : ∀ k, k ≠ g → (putRow encZ (Sort.ahead w q) g 0 r.toArray).heap[k]? = w.heap[k]? := fun k hk => by
      show (w.heap.modify g _)[k]? = _
      rw [Array.getElem?_modify, if_neg (Ne.symm hk)]
    have hsz : (putRow encZ (Sort.ahead w q) g 0 r.toArray).heap.size = w.heap.size := by
      show (w.heap.modify g _).size = _
      rw [Array.size_modify]
    refine ⟨⟨by rw [iv_length, hr, Nat.mul_one], .inr ⟨g, c, _, rfl, hB, hhp, hnc, hcm, by simp [Sort.putCells, hcs], ?_⟩⟩, ⟨⟨rfl, rfl, rfl, Nat.le_of_eq hsz.symm, fun k hk => hot k (by omega)⟩, fun k _ hk => hot k (fun e => hk (by rw [e]; rfl)), fun _ hk => .inl hk⟩⟩
    apply List.ext_getElem?
    intro t
    rw [List.getElem?_take]
    by_cases ht : t < n * 1
    · rw [if_pos ht, getZ r t (by omega), Array.getElem?_toList, Sort.putCells, Array.getElem?_mapIdx, Array.getElem?_eq_getElem (by rw [hcs]; omega), Option.map_some, if_pos ⟨Nat.zero_le _, by simp [hr]; omega⟩, Nat.sub_zero]
    · rw [if_neg ht, List.getElem?_eq_none (by rw [iv_length, hr]; omega)]
/-- The first k of a row are a row. -/
theorem owns_less {w : World} {B n c k : Nat} {a : Option Addr} {l : List Int} (h : w.ownsRow B 3 1 (.slice a n c) n (iv l)) (hl : l.length = n) (hk : k ≤ n) : w.ownsRow B 3 1 (.slice a k c) k (iv (l.take k)) := by
  refine ⟨by rw [iv_length, List.length_take, hl, Nat.mul_one]; omega, ?_⟩
  rcases h.2 with ⟨he, h0⟩ | ⟨g, cap, cur, he, hB, hh, hnc, hcm, hcs, hct⟩
  · injection he with e1 e2 e3
    subst e1 e3
    exact .inl ⟨by rw [show k = 0 by omega], by omega⟩
  · injection he with e1 e2 e3
    subst e1 e3
    refine .inr ⟨g, c, cur, rfl, hB, hh, by omega, hcm, hcs, ?_⟩
    have : iv (l.take k) = (iv l).take (k * 1) := by simp [iv, List.map_take]
    rw [this, ← hct, List.take_take, Nat.min_eq_left (by omega)]
instance : Inhabited Int := ⟨0⟩
theorem sdelete_any (B : Nat) (a : Option Addr) (n c : Nat) (l : List Int) (w : World) (h : w.ownsRow B 3 1 (.slice a n c) n (iv l)) (hl : l.length = n) (hn : 1 ≤ n) :
    Calls Try.prog 77 #[.slice a n c, .int .i64 0, .int .i64 1] w fun e w' => e = .returned (.slice a (n - 1) c) ∧ w'.ownsRow B 3 1 (.slice a (n - 1) c) (n - 1) (iv (l.drop 1)) ∧ RStep B a a w w' := by
  obtain ⟨_, _, he, k1, k2, _⟩ := owns_slice h
  cases he
  unfold maxLen at k2
  obtain ⟨g, rfl⟩ : ∃ g, a = some ⟨g, 0, none⟩ := by
    rcases h.2 with ⟨he, h1⟩ | ⟨g5, _, _, he, _⟩
    · omega
    · injection he with e1 e2 e3; exact ⟨g5, e1⟩
  obtain ⟨i0, hi0, hz0, hzs, hzb⟩ := info_parts info_int
  have hcon : Calls Try.prog 77 #[.slice (some ⟨g, 0, none⟩) l.toArray.size c, .int .i64 ((0 : Nat) : Int), .int .i64 ((1 : Nat) : Int)] w fun e w' => e = .returned (.slice (some ⟨g, 0, none⟩) (l.toArray.size - (1 - 0)) c) ∧ ∃ q, w' = Sort.putRow encZ (Sort.ahead w q) g 0 (l.toArray.toList.take 0 ++ l.toArray.toList.drop 1 ++ List.replicate (1 - 0) 0).toArray := by
    first
    | exact Try.slices_Delete encZ (fun _ => rfl) 0 Try.zeroValue3 i0 hi0 hzs g 0 c 0 1 l.toArray w (holds_ints h hl) (by simp; omega) (by omega) (by decide) (by simp; omega)
    | exact Try.slices_Delete_int_arr g 0 c 0 1 l.toArray w (holds_ints h hl) (by simp; omega) (by omega) (by decide) (by simp; omega)
  rw [List.size_toArray, hl] at hcon
  change Calls Try.prog 77 #[.slice (some ⟨g, 0, none⟩) n c, .int .i64 0, .int .i64 1] w _ at hcon
  refine hcon.mono ?_
  rintro e w' ⟨rfl, q, rfl⟩
  have e : (l.toArray.toList.take 0 ++ l.toArray.toList.drop 1 ++ List.replicate (1 - 0) (0 : Int)) = l.drop 1 ++ [0] := by simp
  rw [e]
  have := put_row_ints (q := q) (r := l.drop 1 ++ [0]) h (by simp [hl]; omega)
  refine ⟨rfl, ?_, this.2⟩
  have h2 := owns_less this.1 (k := n - 1) (by simp [hl]; omega) (by omega)
  rwa [List.take_left' (by rw [List.length_drop, hl])] at h2
theorem RStep.trans {B : Nat} {a a1 a2 : Option Addr} {w w1 w2 : World} (h : RStep B a a1 w w1) (h' : RStep B a1 a2 w1 w2) (hz : w.heap.size ≤ w1.heap.size) : RStep B a a2 w w2 := by
  refine ⟨h.below.trans h'.below, fun k hk hne => ?_, fun k hk => ?_⟩
  · refine (h'.keep k (by omega) ?_).trans (h.keep k hk hne)
    intro e
    rcases h.new k e.symm with e1 | e1
    · exact hne e1.symm
    · omega
  · rcases h'.new k hk with e1 | e1
    · exact h.new k e1
    · exact .inr (by omega)
set_option maxRecDepth 100000 in
set_option maxHeartbeats 3200000 in
theorem push_any (B : Nat) (a : Option Addr) (n c : Nat) (ps : List Int) (z : Int) (w : World) (h : w.ownsRow B 3 1 (.slice a n c) n (iv ps)) (hl : ps.length = n) (hn : n ≤ 64) (hB : B ≤ w.heap.size) :
    Calls Try.prog 45 #[.slice a n c, .int .i64 z] w fun e w' => ∃ a' c', e = .returned (.slice a' (pushK ps z).length c') ∧ w'.ownsRow B 3 1 (.slice a' (pushK ps z).length c') (pushK ps z).length (iv (pushK ps z)) ∧ RStep B a a' w w' := by
  have hAC := allocC
  have hAF := allocF
  have HO := Lib.hid h
  have HL := Lib.hid hl
  have HAPP : ∀ (w0 : World) (hb0 : Below w.heap.size w w0), (w0.alloc (.cells #[.int .i64 z] 3)).ownsRow B 3 1 (.slice a n c) n (iv ps) := fun w0 hb0 => owns_below h (balloc hb0 _) (Nat.le_refl _)
  have HAPPH := Lib.hid HAPP
  by_cases hlast : ps.getLast? = some z
  · have h0 : 0 < n := by
      rcases Nat.eq_zero_or_pos n with h0 | h0
      · rw [List.eq_nil_of_length_eq_zero (by omega : ps.length = 0)] at hlast
        cases hlast
      · exact h0
    have hg : ps[n - 1]? = some z := by rw [← hl, ← List.getLast?_eq_getElem?]; exact hlast
    obtain ⟨gi, oi, z', rfl, hgi, hz', hc'⟩ := iv_at (has_of_owns h) (k := n - 1) (by omega)
    rw [hg] at hz'
    injection hz' with hz'
    subst hz'
    have HP := Lib.hid (show pushK ps z = ps by unfold pushK; rw [if_pos hlast])
    have e1 : oi + (n - 1) = oi + (n - 1) := rfl
    clear h hl hlast hg HAPP
    go_enter Try.func45, Try.ntmps45
    go_wp2_with fail
    go_ret
    rw [HP.out, HL.out]
    exact ⟨_, c, rfl, HO.out, RStep.refl _ _ _⟩
  · have HNL := Lib.hid (show n ≠ 0 → ∃ x, ps[n - 1]? = some x ∧ x ≠ z from fun h0 => ⟨ps[n - 1], List.getElem?_eq_getElem (by omega), fun e => hlast (by rw [List.getLast?_eq_getElem?, hl, List.getElem?_eq_getElem (by omega), e])⟩)
    have HPK := Lib.hid (show pushK ps z = if 64 < (ps ++ [z]).length then (ps ++ [z]).drop 1 else ps ++ [z] by unfold pushK; rw [if_neg hlast])
    have HSD := Lib.hid (fun (a : Option Addr) (c : Nat) W (h : W.ownsRow B 3 1 (.slice a (n + 1) c) (n + 1) (iv (ps ++ [z]))) => sdelete_any B a (n + 1) c (ps ++ [z]) W h (by simp [hl]) (by omega))
    have hgrow : ∀ (a1 : Option Addr) (w0 w1 : World), Below w.heap.size w w0 → w0.heap.size = w.heap.size → w0.heap = w.heap → Below B (w0.alloc (.cells #[.int .i64 z] 3)) w1 → (w0.alloc (.cells #[.int .i64 z] 3)).grownBy w1 (Value.slice a n c).ownBlock → (a1 = a ∨ ∀ p, a1 = some p → (w0.alloc (.cells #[.int .i64 z] 3)).heap.size ≤ p.block) → RStep B a a1 w w1 := by
      intro a1 w0 w1 hb0 hs0 hh0 h5 h6 h7
      have hal : Below w.heap.size w (w0.alloc (.cells #[.int .i64 z] 3)) := balloc hb0 _
      refine ⟨(hal.mono hB).trans h5, fun k hk hne => ?_, fun k hk => ?_⟩
      · refine (h6.block k (by rw [World.size_alloc, hs0]; omega) ?_).trans (hal.block k hk)
        intro e
        rw [ownBlockS] at e
        exact hne e
      · rcases h7 with h7 | h7
        · rw [h7] at hk
          exact .inl hk
        · cases a1 with
          | none => cases hk
          | some p =>
            cases hk
            have := h7 p rfl
            rw [World.size_alloc, hs0] at this
            show _ ∨ w.heap.size ≤ p.block
            exact .inr (by omega)
    have HGROW := Lib.hid hgrow
    clear hgrow
    have hn1 : (ps ++ [z]).length = n + 1 := by simp [hl]
    rw [hn1] at HPK
    have fin1 : ¬ 64 < n + 1 → ∀ (a1 : Option Addr) (c1 : Nat) (w1 : World), w1.ownsRow B 3 1 (.slice a1 (n + 1) c1) (n + 1) (iv (ps ++ [z])) → RStep B a a1 w w1 → ∃ a' c', Ending.returned (.slice a1 (n + 1) c1) = .returned (.slice a' (pushK ps z).length c') ∧ w1.ownsRow B 3 1 (.slice a' (pushK ps z).length c') (pushK ps z).length (iv (pushK ps z)) ∧ RStep B a a' w w1 := by
      intro h64 a1 c1 w1 h1 h2
      have e : pushK ps z = ps ++ [z] := by rw [HPK.out, if_neg h64]
      rw [e, hn1]
      exact ⟨a1, c1, rfl, h1, h2⟩
    have fin2 : 64 < n + 1 → ∀ (a1 : Option Addr) (c1 : Nat) (w1 w2 : World), w1.ownsRow B 3 1 (.slice a1 (n + 1) c1) (n + 1) (iv (ps ++ [z])) → RStep B a a1 w w1 → w2.ownsRow B 3 1 (.slice a1 (n + 1 - 1) c1) (n + 1 - 1) (iv ((ps ++ [z]).drop 1)) → RStep B a1 a1 w1 w2 → ∃ a' c', Ending.returned (.slice a1 (n + 1 - 1) c1) = .returned (.slice a' (pushK ps z).length c') ∧ w2.ownsRow B 3 1 (.slice a' (pushK ps z).length c') (pushK ps z).length (iv (pushK ps z)) ∧ RStep B a a' w w2 := by
      intro h64 a1 c1 w1 w2 h1 h2 h3 h4
      have e : pushK ps z = (ps ++ [z]).drop 1 := by rw [HPK.out, if_pos h64]
      have e2 : ((ps ++ [z]).drop 1).length = n + 1 - 1 := by rw [List.length_drop, hn1]
      rw [e, e2]
      exact ⟨a1, c1, rfl, h3, h2.trans h4 h2.below.size⟩
    have F1 := Lib.hid fin1
    have F2 := Lib.hid fin2
    clear fin1 fin2 hn1 HAPP
    rcases Nat.eq_zero_or_pos n with h0 | h0
    · subst h0
      have d1 : decide ((64 : Int) < ((0 + 1 : Nat) : Int)) = false := by decide
      clear hl hlast h HNL HPK HSD
      go_enter Try.func45, Try.ntmps45
      go_wp2_with (at_builtin; refine wpAppF rfl _ _ 23 rfl B 3 (.int .i64 0) 1 8 Try.underlying23 info_int rfl (by decide) _ _ c (iv ps) rfl (HAPPH.out w (brefl w)) ⟨w.heap.size, 0, none⟩ 1 1 (by decide) (iv [z]) rfl rfl (has_alloc _ _ _) (iv_one _) (by unfold maxLen; omega) (by omega) (by simp; omega) ?_; intro a1 c1 w1 h1 h2 h3 h4 h5 h6 h7; rw [← iv_append] at h1; have HR := Lib.hid (HGROW.out a1 w w1 (brefl w) rfl rfl h5 h6 h7); have HO1 := Lib.hid h1; clear h1 h4 h5 h6 h7)
      go_ret
      exact F1.out (by decide) a1 c1 w1 HO1.out HR.out
    · obtain ⟨x, hx, hxz⟩ := HNL.out (by omega)
      obtain ⟨gi, oi, z', rfl, hgi, hz', hc'⟩ := iv_at (has_of_owns h) (k := n - 1) (by omega)
      rw [hx] at hz'
      injection hz' with hz'
      subst hz'
      have hxe : (x == z) = false := by simpa using hxz
      by_cases h64 : 64 < n + 1
      · have d1 : decide ((64 : Int) < ((n + 1 : Nat) : Int)) = true := by simp; omega
        clear hl hlast h HNL HPK hx
        go_enter Try.func45, Try.ntmps45
        go_wp2_with (first | (at_builtin; refine wpAppF rfl _ _ 23 rfl B 3 (.int .i64 0) 1 8 Try.underlying23 info_int rfl (by decide) _ _ c (iv ps) rfl (HAPPH.out w (brefl w)) ⟨w.heap.size, 0, none⟩ 1 1 (by decide) (iv [z]) rfl rfl (has_alloc _ _ _) (iv_one _) (by unfold maxLen; omega) (by omega) (by simp; omega) ?_; intro a1 c1 w1 h1 h2 h3 h4 h5 h6 h7; rw [← iv_append] at h1; have HR := Lib.hid (HGROW.out a1 w w1 (brefl w) rfl rfl h5 h6 h7); have HO1 := Lib.hid h1; clear h1 h4 h5 h6 h7) | (go_at_call 77; (with_reducible refine (HSD.out _ _ _ HO1.out).mono ?_); rintro e w2 ⟨rfl, h8, h9⟩; have H8 := Lib.hid h8; have H9 := Lib.hid h9; clear h8 h9))
        go_ret
        exact F2.out h64 a1 c1 w1 w2 HO1.out HR.out H8.out H9.out
      · have d1 : decide ((64 : Int) < ((n + 1 : Nat) : Int)) = false := by simp; omega
        clear hl hlast h HNL HPK HSD hx
        go_enter Try.func45, Try.ntmps45
        go_wp2_with (at_builtin; refine wpAppF rfl _ _ 23 rfl B 3 (.int .i64 0) 1 8 Try.underlying23 info_int rfl (by decide) _ _ c (iv ps) rfl (HAPPH.out w (brefl w)) ⟨w.heap.size, 0, none⟩ 1 1 (by decide) (iv [z]) rfl rfl (has_alloc _ _ _) (iv_one _) (by unfold maxLen; omega) (by omega) (by simp; omega) ?_; intro a1 c1 w1 h1 h2 h3 h4 h5 h6 h7; rw [← iv_append] at h1; have HR := Lib.hid (HGROW.out a1 w w1 (brefl w) rfl rfl h5 h6 h7); have HO1 := Lib.hid h1; clear h1 h4 h5 h6 h7)
        go_ret
        exact F1.out h64 a1 c1 w1 HO1.out HR.out
end Go.Proofs.Ythehcbbdkiomnaa
end
section

/- liga.unite, and what holds of places that are kept. Conditions: a line in memory; a row of the call's own; sizes. -/
namespace Go.Proofs.Ythehcbbdkiomnaa
open Go.RowKit Go.Lib

/-- No place is kept twice, one behind the other. -/
def Apart (ps : List Int) : Prop := ∀ (i : Nat) (a : Int), ps[i]? = some a → ps[i + 1]? = some a → False
theorem Apart.nil : Apart [] := fun i a h => by simp at h
theorem Apart.take {ps : List Int} (h : Apart ps) (k : Nat) : Apart (ps.take k) := by
  intro i a h1 h2
  rw [List.getElem?_take] at h1 h2
  split at h1
  · split at h2
    · exact h i a h1 h2
    · cases h2
  · cases h1
theorem Apart.drop {ps : List Int} (h : Apart ps) (k : Nat) : Apart (ps.drop k) := by
  intro i a h1 h2
  rw [List.getElem?_drop] at h1 h2
  exact h (k + i) a h1 (by rw [← Nat.add_assoc] at h2; exact h2)
theorem Apart.push {ps : List Int} (h : Apart ps) {z : Int} (hz : ps.getLast? ≠ some z) : Apart (ps ++ [z]) := by
  intro i a h1 h2
  by_cases h3 : i + 1 < ps.length
  · rw [List.getElem?_append_left h3] at h2
    rw [List.getElem?_append_left (by omega)] at h1
    exact h i a h1 h2
  · have hl := (List.getElem?_eq_some_iff.1 h2).1
    simp at hl
    have hi : i + 1 = ps.length := by omega
    rw [List.getElem?_append_left (by omega)] at h1
    rw [List.getElem?_append_right (by omega), show i + 1 - ps.length = 0 by omega] at h2
    simp at h2
    subst h2
    apply hz
    rw [List.getLast?_eq_getElem?, show ps.length - 1 = i by omega]
    exact h1
theorem Apart.pushK {ps : List Int} (h : Apart ps) (z : Int) : Apart (pushK ps z) := by
  unfold Go.Proofs.Ythehcbbdkiomnaa.pushK
  split
  · exact h
  rename_i hz
  split
  · exact (h.push hz).drop 1
  · exact h.push hz
theorem Apart.dropLast {ps : List Int} (h : Apart ps) : Apart ps.dropLast := by
  rw [List.dropLast_eq_take]
  exact h.take _
theorem last_append {ps : List Int} {i : Int} (h : ps.getLast? = some i) : ps.dropLast ++ [i] = ps := by
  have hne : ps ≠ [] := by rintro rfl; cases h
  rw [List.getLast?_eq_some_getLast hne] at h
  injection h with h
  rw [← h]
  exact List.dropLast_concat_getLast hne
/-- A place that is kept again. -/
theorem push_again {ps : List Int} {i : Int} (h : Apart ps) (hl : ps.length ≤ 64) (hi : ps.getLast? = some i) : pushK ps.dropLast i = ps := by
  have hap := last_append hi
  have hne : ps.dropLast.getLast? ≠ some i := by
    intro e
    have hlen : ps.length = ps.dropLast.length + 1 := by rw [← hap]; simp
    have h0 : 0 < ps.dropLast.length := by
      cases hd : ps.dropLast with
      | nil => rw [hd] at e; cases e
      | cons x xs => simp
    rw [List.getLast?_eq_getElem?] at e hi
    refine h (ps.length - 2) i ?_ (by rw [show ps.length - 2 + 1 = ps.length - 1 by omega]; exact hi)
    have : ps.dropLast[ps.dropLast.length - 1]? = ps[ps.length - 2]? := by
      rw [List.dropLast_eq_take, List.getElem?_take, if_pos (by rw [← List.dropLast_eq_take]; omega)]
      congr 1
      rw [← List.dropLast_eq_take]
      omega
    rw [← this]
    exact e
  unfold pushK
  rw [if_neg hne, hap, if_neg (by omega)]
theorem perfL_apart (ac co li : List UInt8) : ∀ n l ps k sum gone, Apart ps → Apart (perfL ac co li n l ps k sum gone).2 := by
  intro n
  induction n with
  | zero => intro l ps k sum gone h; exact h
  | succ n ih =>
    intro l ps k sum gone h
    unfold perfL
    split
    · exact h
    split
    · exact h.dropLast
    split
    · split
      · exact h.dropLast
      split
      · exact h.dropLast.pushK _
      · exact ih _ _ _ _ _ h.dropLast
    · exact ih _ _ _ _ _ h.dropLast
theorem goneL_snoc (l : List (Int × Int)) (gone : List Int) (j : Nat) (z : Int) (h : gone[j]? = some z) : goneL l (gone.take (j + 1)) = setG (goneL l (gone.take j)) z 65535 := by
  unfold goneL
  rw [List.take_add_one, h]
  show List.foldl _ l (gone.take j ++ [z]) = _
  rw [List.foldl_append]
  rfl
theorem atN_wrap (l : List UInt8) (z : Int) (hl : l.length ≤ 9223372036854775807) (hz : -9223372037391646720 ≤ z ∧ z ≤ 9223372037391646720) : atN l (wrap64 z) = atN l z := by
  by_cases h : -9223372036854775808 ≤ z ∧ z ≤ 9223372036854775807
  · rw [IntWalk.wrap64_in _ h]
  · have hw : wrap64 z = if z < 0 then z + 18446744073709551616 else z - 18446744073709551616 := by
      unfold wrap64
      split <;> omega
    rw [hw]
    unfold atN
    split
    · rw [if_neg (by omega), if_neg (by omega)]
    · rw [if_neg (by omega), if_neg (by omega)]
set_option maxRecDepth 100000 in
set_option maxHeartbeats 1600000 in
/-- Some glyphs become one. -/
theorem unite_any (B Bk gl : Nat) (a : Option Addr) (c : Nat) (l : List (Int × Int)) (z id : Int) (ag : Option Addr) (m cg : Nat) (gone : List Int) (w : World) (hG : GIs B gl a c l w) (ho : w.ownsRow Bk 3 1 (.slice ag m cg) m (iv gone)) (hgl : gone.length = m) (hB : B ≤ gl) (hBw : B ≤ w.heap.size) (hn : l.length ≤ 1000000) (hm : m ≤ 1000000) :
    Calls Try.prog 81 #[.pointer (some ⟨gl, 0, none⟩), .int .i64 z, .int .i64 id, .slice ag m cg] w fun e w' => e = .returned (.tuple #[]) ∧ GIs B gl a c (oneL l z id gone) w' ∧ KeepC B (ownS (a.map (·.block))) w w' := by
  have hAC := allocC
  have hAF := allocF
  have hnoI : ∀ k, ¬ ownS (a.map (·.block)) k 3 := fun k h => absurd h.1 (by decide)
  have HST := Lib.hid (fun (W : World) l (hG : GIs B gl a c l W) z x => gset_keep B gl a c l W hG z x)
  have HJN := Lib.hid (fun (W : World) (hk : KeepC B (ownS (a.map (·.block))) w W) l (hG : GIs B gl a c l W) (hl : l.length ≤ 1000000) => (gjoin_any B gl a c l z ag m cg gone W hG (has_of_owns (hk.owns ho hnoI)) (fun p hp _ he => by
    have := own_neE (hk.owns ho hnoI) hG.hd (by decide)
    rw [ownBlockS, hp, ← he] at this
    exact this rfl) (fun p q hp hq _ he => by
    rcases (hk.owns ho hnoI).2 with ⟨hv, _⟩ | ⟨b, cap, cur, hv, _, hh, _⟩
    · injection hv with hv
      rw [hv] at hp
      cases hp
    · have h3 := own_neE hG.row hh (by decide)
      injection hv with hv
      rw [hv] at hp
      cases hp
      rw [ownBlockS, hq] at h3
      exact h3 (congrArg some he)) hgl hB (Nat.le_trans hBw hk.size) hl hm).mono (R' := fun e w' => e = .returned (.tuple #[]) ∧ GIs B gl a c (joinG l z gone) w' ∧ KeepC B (ownS (a.map (·.block))) W w') (by
      rintro e w' ⟨he, h1, h2⟩
      exact ⟨he, h1, h2.keepS hG h1 (joinG_length _ _ _) rfl h2.below.size⟩))
  have HG := Lib.hid hG
  have HHAS := Lib.hid (fun (W : World) (hk : KeepC B (ownS (a.map (·.block))) w W) => has_of_owns (hk.owns ho hnoI))
  have HGL := Lib.hid hgl
  have hlen1 : (setG l z id).length ≤ 1000000 := by rw [setG_length]; exact hn
  clear hG ho hgl hnoI hn
  go_enter Try.func81, Try.ntmps81
  go_wp2_with fail
  refine (HST.out _ _ HG.out z id).mono ?_
  rintro e w1 ⟨rfl, h1, k1⟩
  have H1 := Lib.hid h1
  have K1 := Lib.hid k1
  clear h1 k1
  go_wp2_with fail
  refine (HJN.out _ K1.out _ H1.out hlen1).mono ?_
  rintro e w2 ⟨rfl, h2, k2⟩
  have H2 := Lib.hid h2
  have K2 := Lib.hid (K1.out.trans k2)
  clear h2 k2
  go_wp2_with fail
  go_loopw [20] (fun x wr => ∃ j : Nat, j ≤ m ∧ x = .int .i64 (j : Nat) ∧ GIs B gl a c (goneL (joinG (setG l z id) z gone) (gone.take j)) wr ∧ KeepC B (ownS (a.map (·.block))) w wr) (fun x _ => m - (RowKit.intOf x).toNat)
  case atStart => exact ⟨0, Nat.zero_le _, rfl, H2.out, K2.out⟩
  case round =>
    obtain ⟨j, hj, rfl, hg, hk⟩ := hrel
    have H3 := Lib.hid hg
    have K3 := Lib.hid hk
    clear hg hk
    by_cases hlt : j < m
    · obtain ⟨gi, oi, k, rfl, hgi, hk, hci⟩ := iv_at (HHAS.out _ K3.out) (k := j) (by rw [HGL.out]; exact hlt)
      have HS := Lib.hid (goneL_snoc (joinG (setG l z id) z gone) gone j k hk)
      clear hk
      go_wp2_with (first | (go_at_call 99; (with_reducible refine (HST.out _ _ H3.out k 65535).mono ?_); rintro e w3 ⟨rfl, h4, k4⟩; have H4 := Lib.hid h4; have K4 := Lib.hid (K3.out.trans k4); clear h4 k4))
      go_roundw
      case rel => exact ⟨j + 1, hlt, by go_num, by rw [HS.out]; exact H4.out, K4.out⟩
      case measure => simp only [RowKit.intOf]; omega
    · obtain rfl : m = j := by omega
      go_wp2_with fail
      go_end0
      refine ⟨rfl, ?_, K3.out⟩
      have := H3.out
      rw [List.take_of_length_le (Nat.le_of_eq HGL.out)] at this
      exact this
end Go.Proofs.Ythehcbbdkiomnaa
end
section

/- liga.perform: the actions from one on, done one behind the other. Conditions: a subtable, a line and a row of places that are kept, in memory; from the action on they are there, up to a last one; sizes. -/
namespace Go.Proofs.Ythehcbbdkiomnaa
open Go.RowKit Go.Lib

/-- What perform may change: the line's row, and rows of numbers of its own. -/
def ownP (bk : Option Nat) (N k t : Nat) : Prop := ownS bk k t ∨ (t = 3 ∧ N ≤ k)
theorem ownP_no {bk : Option Nat} {N t : Nat} (h1 : t ≠ 100) (h2 : t ≠ 3) : ∀ k, ¬ ownP bk N k t := fun _ h => by
  rcases h with ⟨h, _⟩ | ⟨h, _⟩
  · exact h1 h
  · exact h2 h
theorem notM_P (bk : Option Nat) (N : Nat) : notM (ownP bk N) := ⟨ownP_no (by decide) (by decide), ownP_no (by decide) (by decide), ownP_no (by decide) (by decide), ownP_no (by decide) (by decide), ownP_no (by decide) (by decide), ownP_no (by decide) (by decide), ownP_no (by decide) (by decide)⟩
theorem KeepC.ofP {bk : Option Nat} {B N : Nat} {w w' : World} (h : KeepC B (ownS bk) w w') : KeepC B (ownP bk N) w w' := ⟨h.below, h.size, fun k cs t fz hk ho => h.kept k cs t fz hk fun hs => ho (.inl hs)⟩
theorem owns_keepB {w w' : World} {base e size n : Nat} {v : Value} {xs : List Value} (h : w.ownsRow base e size v n xs) (hk : ∀ g, v.ownBlock = some g → w'.heap[g]? = w.heap[g]?) : w'.ownsRow base e size v n xs := by
  refine ⟨h.1, ?_⟩
  rcases h.2 with k | ⟨k, cap, cur, hv, hB, hh, r⟩
  · exact .inl k
  · exact .inr ⟨k, cap, cur, hv, hB, (hk k (by rw [hv]; rfl)).trans hh, r⟩
theorem JIs.keep {L B gt B0 : Nat} {bs : List UInt8} {rs : List RP} {S : Nat} {own : Nat → Nat → Prop} {w w' : World} (h : JIs L B gt bs rs S w) (hk : KeepC B0 own w w') (hL : L ≤ B0) (hm : notM own) (h1 : ∀ k, ¬ own k 116) (h2 : ∀ k, ¬ own k 5) : JIs L B gt bs rs S w' := by
  obtain ⟨g, a, c, e1, e2, e3, e4, e5⟩ := h.is
  exact ⟨⟨g, a, c, (hk.kept _ _ _ _ e1 (h1 _)).trans e1, e2.keepO hk hm, e3.keep hk hL h2, e4, e5⟩, h.ge⟩
theorem perfL_step (ac co li : List UInt8) (m : Nat) (l : List (Int × Int)) (qs : List Int) (i : Int) (k : Nat) (sum : Int) (gone : List Int) : perfL ac co li (m + 1) l (qs ++ [i]) k sum gone =
    if atN co ((atG l i).1 + offA (num ac (4 * k) 4)) < 0 then (l, qs)
    else if 2147483648 ≤ num ac (4 * k) 4 ∨ num ac (4 * k) 4 / 1073741824 % 2 = 1 then
      (if atN li (sum + atN co ((atG l i).1 + offA (num ac (4 * k) 4))) < 0 then (l, qs)
      else if 2147483648 ≤ num ac (4 * k) 4 then (oneL l i (atN li (sum + atN co ((atG l i).1 + offA (num ac (4 * k) 4)))) gone, pushK qs i)
      else perfL ac co li m (oneL l i (atN li (sum + atN co ((atG l i).1 + offA (num ac (4 * k) 4)))) gone) qs (k + 1) (sum + atN co ((atG l i).1 + offA (num ac (4 * k) 4))) [i])
    else perfL ac co li m l qs (k + 1) (sum + atN co ((atG l i).1 + offA (num ac (4 * k) 4))) (gone ++ [i]) := by
  have e1 : (qs ++ [i]).getLast? = some i := by simp
  have e2 : (qs ++ [i]).dropLast = qs := by simp
  rw [perfL]
  simp only [e1, e2]
theorem GoodA.next {ac : List UInt8} {k : Nat} (h : GoodA ac k) (hn : ¬ 2147483648 ≤ num ac (4 * k) 4) : GoodA ac (k + 1) := by
  obtain ⟨q, h1, h2, h3⟩ := h
  refine ⟨q, ?_, h2, h3⟩
  rcases Nat.lt_or_ge k q with e | e
  · omega
  · exact absurd (by rw [show k = q by omega]; exact h3) hn
/-- Rows of numbers of its own. -/
def ownI (N k t : Nat) : Prop := t = 3 ∧ N ≤ k
theorem KeepC.ofI {bk : Option Nat} {B N : Nat} {w w' : World} (h : KeepC B (ownI N) w w') : KeepC B (ownP bk N) w w' := ⟨h.below, h.size, fun k cs t fz hk ho => h.kept k cs t fz hk fun hs => ho (.inr hs)⟩
theorem GIs.keepI {B g c B0 : Nat} {a : Option Addr} {l : List (Int × Int)} {own : Nat → Nat → Prop} {w w' : World} (h : GIs B g a c l w) (hk : KeepC B0 own w w') (h1 : ∀ k, ¬ own k 111) (h2 : ∀ k, ¬ own k 100) : GIs B g a c l w' := ⟨(hk.kept _ _ _ _ h.hd (h1 _)).trans h.hd, hk.owns h.row h2⟩
theorem app_keep {B N base n c : Nat} {a : Option Addr} {xs : List Value} {x : Value} {V w1 : World} (h : V.ownsRow base 3 1 (.slice a n c) n xs) (hB : B ≤ N) (hN : N ≤ base) (hb : base ≤ V.heap.size) (h5 : Below base (V.alloc (.cells #[x] 3)) w1) (h6 : (V.alloc (.cells #[x] 3)).grownBy w1 (Value.slice a n c).ownBlock) : KeepC B (ownI N) V w1 := by
  have hal : Below V.heap.size V (V.alloc (.cells #[x] 3)) := balloc (brefl V) _
  refine ⟨(hal.mono (show B ≤ V.heap.size by omega)).trans (h5.mono (show B ≤ base by omega)), Nat.le_trans hal.size h6.size, fun k cs t fz hk ho => ?_⟩
  have hlt := (Array.getElem?_eq_some_iff.1 hk).1
  refine (h6.block k (Nat.lt_of_lt_of_le hlt hal.size) fun e => ?_).trans (hal.block k hlt)
  rcases h.2 with ⟨hv, _⟩ | ⟨g, cap, cur, hv, hbg, hh, _⟩
  · injection hv with hv
    rw [hv] at e
    cases e
  · injection hv with hv
    rw [hv] at e
    cases e
    rw [hh] at hk
    injection hk with hk
    injection hk with _ h2 _
    subst h2
    exact ho ⟨rfl, Nat.le_trans hN hbg⟩
set_option maxRecDepth 100000 in
set_option maxHeartbeats 6400000 in
theorem perform_any (L Bt gt B gl N : Nat) (bs : List UInt8) (rs : List RP) (S : Nat) (a : Option Addr) (c : Nat) (l : List (Int × Int)) (ak : Option Addr) (n ck : Nat) (ps : List Int) (k0 : Nat) (w : World)
    (hJ : JIs L Bt gt bs rs S w) (hL : L ≤ B) (hat : num bs 16 4 ≤ bs.length ∧ num bs 20 4 ≤ bs.length ∧ num bs 24 4 ≤ bs.length) (hG : GIs B gl a c l w) (hB : B ≤ gl) (hBN : B ≤ N) (hNw : N ≤ w.heap.size)
    (ho : w.ownsRow N 3 1 (.slice ak n ck) n (iv ps)) (hpl : ps.length = n) (hK : KeptL l.length ps) (hA : Apart ps) (hids : IdsOk l) (hl6 : l.length ≤ 1000000) (hgood : GoodA (bs.drop (num bs 16 4)) k0) :
    Calls Try.prog 46 #[.pointer (some ⟨gt, 0, none⟩), .pointer (some ⟨gl, 0, none⟩), .slice ak n ck, .int .i64 (k0 : Nat)] w fun e w' =>
      ∃ a' c', e = .returned (.slice a' (perfL (bs.drop (num bs 16 4)) (bs.drop (num bs 20 4)) (bs.drop (num bs 24 4)) ps.length l ps k0 0 []).2.length c') ∧ w'.ownsRow N 3 1 (.slice a' (perfL (bs.drop (num bs 16 4)) (bs.drop (num bs 20 4)) (bs.drop (num bs 24 4)) ps.length l ps k0 0 []).2.length c') (perfL (bs.drop (num bs 16 4)) (bs.drop (num bs 20 4)) (bs.drop (num bs 24 4)) ps.length l ps k0 0 []).2.length (iv (perfL (bs.drop (num bs 16 4)) (bs.drop (num bs 20 4)) (bs.drop (num bs 24 4)) ps.length l ps k0 0 []).2)
        ∧ GIs B gl a c (perfL (bs.drop (num bs 16 4)) (bs.drop (num bs 20 4)) (bs.drop (num bs 24 4)) ps.length l ps k0 0 []).1 w' ∧ KeepC B (ownP (a.map (·.block)) N) w w' := by
  have hAC := allocC
  have hAF := allocF
  obtain ⟨R, hR⟩ : ∃ R, R = perfL (bs.drop (num bs 16 4)) (bs.drop (num bs 20 4)) (bs.drop (num bs 24 4)) ps.length l ps k0 0 [] := ⟨_, rfl⟩
  rw [← hR]
  obtain ⟨g, ab, cb, e1, _, e3, e4, e5⟩ := hJ.is
  have hmax : bs.length ≤ 9223372036854775807 := by unfold maxLen at e5; omega
  have HNA := Lib.hid (fun W (hW : KeepC B (ownP (a.map (·.block)) N) w W) => (hW.kept _ _ _ _ e1 (ownP_no (by decide) (by decide) _)).trans e1)
  have HBS := Lib.hid (fun W (hW : KeepC B (ownP (a.map (·.block)) N) w W) => e3.keep hW hL (ownP_no (by decide) (by decide)))
  have hgtw := (Array.getElem?_eq_some_iff.1 e1).1
  obtain ⟨P16, h16⟩ : ∃ P, P = num bs 16 4 := ⟨_, rfl⟩
  obtain ⟨P20, h20⟩ : ∃ P, P = num bs 20 4 := ⟨_, rfl⟩
  obtain ⟨P24, h24⟩ : ∃ P, P = num bs 24 4 := ⟨_, rfl⟩
  rw [← h16, ← h20, ← h24] at HNA hR hat
  rw [← h16] at hgood
  obtain ⟨nb, hnb⟩ : ∃ nb, nb = bs.length := ⟨_, rfl⟩
  rw [← hnb] at HNA hat e4 hmax
  have HNB := Lib.hid hnb
  have HACT := Lib.hid (fun W (hW : KeepC B (ownP (a.map (·.block)) N) w W) (k : Nat) (z : Int) (hz : z = (k : Nat)) (hk : 4 * k + 4 ≤ nb - P16) => action_ok gt _ _ _ (0, 0) _ (nb - P16) (cb - P16) (bs.drop P16) k z hz W (HNA.out W hW) ((HBS.out W hW).adv cb P16 (by rw [← HNB.out]; exact e4)).has (by rw [List.length_drop, ← HNB.out]) (by omega) (Nat.le_trans (Nat.sub_le _ _) e5) hk)
  have HCO := Lib.hid (fun W (hW : KeepC B (ownP (a.map (·.block)) N) w W) (z : Int) (hz : -9223372036854775808 ≤ z ∧ z ≤ 9223372036854775807) => numberAt_any (adv ab cb P20) (nb - P20) (cb - P20) (bs.drop P20) z W ((HBS.out W hW).adv cb P20 (by rw [← HNB.out]; exact e4)).has (by rw [List.length_drop, ← HNB.out]) (by omega) (Nat.le_trans (Nat.sub_le _ _) e5) hz)
  have HLI := Lib.hid (fun W (hW : KeepC B (ownP (a.map (·.block)) N) w W) (z : Int) (hz : -9223372036854775808 ≤ z ∧ z ≤ 9223372036854775807) => numberAt_any (adv ab cb P24) (nb - P24) (cb - P24) (bs.drop P24) z W ((HBS.out W hW).adv cb P24 (by rw [← HNB.out]; exact e4)).has (by rw [List.length_drop, ← HNB.out]) (by omega) (Nat.le_trans (Nat.sub_le _ _) e5) hz)
  have HKB := Lib.hid (show ∀ p, ak = some p → p.block < w.heap.size from fun p hp => by
    rcases ho.2 with ⟨hv, _⟩ | ⟨b, cap, cur, hv, _, hh, _⟩
    · injection hv with hv
      rw [hv] at hp
      cases hp
    · injection hv with hv
      rw [hv] at hp
      cases hp
      exact (Array.getElem?_eq_some_iff.1 hh).1)
  have HO := Lib.hid ho
  have HG := Lib.hid hG
  have HPL := Lib.hid hpl
  have HKL := Lib.hid hK
  have HAP := Lib.hid hA
  have HID := Lib.hid hids
  have HGD := Lib.hid hgood
  have HR := Lib.hid hR
  clear hJ e1 e3 hR hnb h16 h20 h24 ho hG hK hA hids hgood
  go_enter Try.func46, Try.ntmps46
  go_wp2_with fail
  go_loopw [2, 3, 9, 10] (fun v2 v3 v9 v10 wr => ∃ (ps : List Int) (l1 : List (Int × Int)) (k : Nat) (sum : Int) (gone : List Int) (ag : Option Addr) (cg : Nat), v2 = .slice ak ps.length ck ∧ v3 = .int .i64 (k : Nat) ∧ v9 = .slice ag gone.length cg ∧ v10 = .int .i64 sum ∧ wr.ownsRow N 3 1 (.slice ak ps.length ck) ps.length (iv ps) ∧ wr.ownsRow w.heap.size 3 1 (.slice ag gone.length cg) gone.length (iv gone) ∧ GIs B gl a c l1 wr ∧ l1.length = l.length ∧ IdsOk l1 ∧ KeptL l.length ps ∧ Apart ps ∧ GoodA (bs.drop P16) k ∧ 0 ≤ sum ∧ sum + 65535 * (ps.length : Int) ≤ 4194240 ∧ gone.length + ps.length ≤ 64 ∧ KeepC B (ownP (a.map (·.block)) N) w wr ∧ perfL (bs.drop P16) (bs.drop P20) (bs.drop P24) ps.length l1 ps k sum gone = R) (fun v2 _ _ _ _ => match v2 with | .slice _ n _ => n | _ => 0)
  case atStart => exact ⟨ps, l, k0, 0, [], none, 0, by rw [HPL.out], rfl, rfl, rfl, by rw [HPL.out]; exact HO.out, World.ownsRow_nil _ _ _ _, HG.out, rfl, HID.out, HKL.out, HAP.out, HGD.out, by decide, by have := HKL.out.1; omega, by have := HKL.out.1; simpa using this, KeepC.refl _ _ _, HR.out.symm⟩
  case round =>
    obtain ⟨ps, l1, k, sum, gone, ag, cg, rfl, rfl, rfl, rfl, hop, hog, hg, hll, hid, hkl, hap, hgd, hs0, hs1, hgp, hk, hrun⟩ := hrel
    rename World => wr
    have HOP := Lib.hid hop
    have HOG := Lib.hid hog
    have HGI := Lib.hid hg
    have HID1 := Lib.hid hid
    have HGD1 := Lib.hid hgd
    have HGP := Lib.hid hgp
    have HK1 := Lib.hid hk
    rcases (show ps = [] ∨ ∃ qs i, ps = qs ++ [i] from by
      rcases List.eq_nil_or_concat ps with h | ⟨q, i, h⟩
      · exact .inl h
      · exact .inr ⟨q, i, by rw [h, List.concat_eq_append]⟩) with rfl | ⟨qs, i, rfl⟩
    · have HRUN := Lib.hid ((perfL_nil _ _ _ _ _ _ _ _).symm.trans hrun)
      clear hop hog hg hid hkl hap hgd hgp hk hrun
      go_wp2_with fail
      go_ret
      rw [← HRUN.out]
      exact ⟨ak, ck, rfl, HOP.out, HGI.out, HK1.out⟩
    obtain ⟨m, hm⟩ : ∃ m, m = qs.length := ⟨_, rfl⟩
    have hlen : (qs ++ [i]).length = m + 1 := by simp [hm]
    rw [hlen] at hrun hs1 hgp hop HOP HGP ⊢
    rw [perfL_step] at hrun
    have hi := hkl.2 i (by simp)
    obtain ⟨j, rfl⟩ : ∃ j : Nat, i = j := ⟨i.toNat, by omega⟩
    obtain ⟨pg, hj⟩ : ∃ p, l1[j]? = some p := ⟨_, List.getElem?_eq_getElem (by omega)⟩
    have hatp := atG_of hj
    have hinp : inG l1 (j : Nat) = true := by unfold inG; simp; omega
    have hidp := hid pg (List.mem_of_getElem? hj)
    obtain ⟨_, _, hes, hmck, hckm, _⟩ := owns_slice hop
    cases hes
    unfold maxLen at hckm
    have hck0 : ¬ ck = 0 := by omega
    obtain ⟨gk, okk, zk, rfl, hgk, hzk, hck⟩ := iv_at (has_of_owns hop) (k := m) (by rw [hlen]; omega)
    have hzk2 : zk = (j : Nat) := by
      rw [hm, List.getElem?_append_right (Nat.le_refl _)] at hzk
      simp at hzk
      exact hzk.symm
    subst hzk2
    have h4 : 4 * k + 4 ≤ nb - P16 := by
      obtain ⟨q, h1, h2, _⟩ := hgd
      rw [List.length_drop, ← HNB.out] at h2
      omega
    have hX := num4_lt (bs.drop P16) (4 * k)
    have HSTEP := Lib.hid (hgd.next)
    have hact := fun W (hW : KeepC B (ownP (a.map (·.block)) N) w W) z hz => HACT.out W hW k z hz h4
    obtain ⟨X, hXe⟩ : ∃ X, X = num (bs.drop P16) (4 * k) 4 := ⟨_, rfl⟩
    rw [← hXe] at hrun hact HSTEP hX
    rw [hatp] at hrun
    obtain ⟨p1, p2⟩ := pg
    simp only at hrun hidp
    have hgat := fun W (hW : GIs B gl a c l1 W) => gat_any B gl a c l1 W hW (j : Nat)
    rw [hatp, hinp] at hgat
    simp only [glyphA] at hgat
    have HA1 := Lib.hid hact
    have HAT := Lib.hid hgat
    have HRUN := Lib.hid hrun
    have HAPP := Lib.hid hap
    have HKL1 := Lib.hid hkl
    have HM := Lib.hid hm
    have HJ1 := Lib.hid hj
    have hwr : w.heap.size ≤ wr.heap.size := hk.size
    clear hop hog hg hid hkl hap hgd hgp hk hrun hact hgat hlen hatp hinp hj hzk hXe hm
    have dm : decide ((0 : Int) < ((m + 1 : Nat) : Int)) = true := decide_eq_true (by omega)
    go_wp2_with (first
      | (go_at_call 78; (with_reducible refine (HA1.out _ HK1.out _ (by go_num)).mono ?_); rintro e wa ⟨rfl, hba⟩; have HBA := Lib.hid hba; have hza := hba.size; clear hba)
      | (go_at_call 44; (with_reducible refine (HAT.out _ (HGI.out.below HBA.out)).mono ?_); rintro e wb ⟨rfl, hbb⟩; have HBB := Lib.hid (bthen HBA.out hbb); have hzb := hbb.size; clear hbb))
    obtain ⟨W, hW⟩ : ∃ W, W = wb.alloc (Obj.cells #[.int .i64 p1, .int .i64 p2] 100) := ⟨_, rfl⟩
    have hbW : Below wr.heap.size wr W := by rw [hW]; exact balloc HBB.out _
    have x13 : W.heap[wb.heap.size]? = some (.cells #[.int .i64 p1, .int .i64 p2] 100 (0, 0)) := by rw [hW]; exact (heap_push _ _ _).trans (if_pos rfl)
    rw [← hW]
    have q13 := fun o => cell_of_heap x13 o
    have l13 := (Array.getElem?_eq_some_iff.1 x13).1
    have hKW := HK1.out.trans (KeepC.of (own := ownP (a.map (·.block)) N) hbW (by omega))
    have xt := HNA.out W hKW
    have qt := fun o => cell_of_heap xt o
    have lt := (Array.getElem?_eq_some_iff.1 xt).1
    have HKW := Lib.hid hKW
    have HGW := Lib.hid (HGI.out.below hbW)
    have HOW := Lib.hid (show W.ownsRow N 3 1 (.slice (some ⟨gk, okk, none⟩) m ck) m (iv qs) from by
      have h1 := owns_less (owns_below HOP.out hbW (Nat.le_refl _)) (k := m) (by simp [HM.out]) (by omega)
      rwa [HM.out, List.take_left, ← HM.out] at h1)
    have HGOW := Lib.hid (owns_below HOG.out hbW (Nat.le_refl _))
    have HBW := Lib.hid hbW
    have hzW := hbW.size
    have hoff := offA_le X
    have HNUM := Lib.hid (fun V => number_any X (by omega) V)
    have hP := atN_le (bs.drop P20) (p1 + offA X)
    have hcw := atN_wrap (bs.drop P20) (p1 + offA X) (by rw [List.length_drop, ← HNB.out]; omega) (by omega)
    have HCOW := Lib.hid (fun V (hV : Below W.heap.size W V) (z : Int) (hz : z = wrap64 (p1 + offA X)) => show Calls Try.prog 79 #[.agg #[.slice (adv ab cb P20) (nb - P20) (cb - P20)], .int .i64 z] V fun e w' => e = .returned (.tuple #[.int .i64 (max (atN (bs.drop P20) (p1 + offA X)) 0), .bool (decide (0 ≤ atN (bs.drop P20) (p1 + offA X)))]) ∧ Below V.heap.size V w' from by
      subst hz
      have := HCO.out V (HKW.out.trans (KeepC.of hV (by omega))) (wrap64 (p1 + offA X)) (wrap64_bd _)
      rwa [hcw] at this)
    have hrun := HRUN.out
    obtain ⟨P, hPe⟩ : ∃ P, P = atN (bs.drop P20) (p1 + offA X) := ⟨_, rfl⟩
    rw [← hPe] at hP HCOW hrun
    clear hW hbW x13 hKW xt hcw hPe HRUN HA1 HAT HBA HBB
    by_cases hP0 : P < 0
    · rw [if_pos hP0] at hrun
      have HRUN := Lib.hid hrun
      have dP : decide (0 ≤ P) = false := decide_eq_false (by omega)
      have eP : max P 0 = 0 := by omega
      rw [dP, eP] at HCOW
      clear hrun
      refine wp_region_tree (.step 0 (.step 1 (.step 2 (.step 3 (.step 4 (.step 5 (.step 6 (.step 7 (.step 8 (.step 9 (.step 10 (.step 11 (.step 12 (.step 13 (.step 14 .nil))))))))))))))) (by kernel_rfl) (by kernel_rfl) (by kernel_rfl) (by kernel_rfl) (by intro _ _ d_ _ _ h_; cases d_ <;> first | exact h_ | (dsimp +zetaDelta only at h_ ⊢; exact h_)) (fun w' => ∃ p : Wld W [], w' = p.val) (wld_start _ _) ?_
      have hG_ := @wldC W
      (refine tree_quiet gtA (by rfl) (by rfl) (fun K_ hK_ => ?_); go_big_quiet_op; refine hK_ _ ?_; clear hK_ K_)
      (refine tree_quiet gtA (by rfl) (by rfl) (fun K_ hK_ => ?_); go_big_quiet_op; refine hK_ _ ?_; clear hK_ K_)
      (refine tree_quiet gtA (by rfl) (by rfl) (fun K_ hK_ => ?_); go_big_quiet_op; refine hK_ _ ?_; clear hK_ K_)
      (refine tree_quiet gtA (by rfl) (by rfl) (fun K_ hK_ => ?_); go_big_quiet_op; refine hK_ _ ?_; clear hK_ K_)
      (refine tree_quiet gtA (by rfl) (by rfl) (fun K_ hK_ => ?_); go_big_quiet_op; refine hK_ _ ?_; clear hK_ K_)
      (refine tree_quiet gtA (by rfl) (by rfl) (fun K_ hK_ => ?_); go_big_quiet_op; refine hK_ _ ?_; clear hK_ K_)
      (refine tree_quiet gtA (by rfl) (by rfl) (fun K_ hK_ => ?_); go_big_quiet_op; refine hK_ _ ?_; clear hK_ K_)
      (refine tree_run gtA (by rfl) (by rfl) (fun K_ hK_ => ?_); have HK_ := Lib.hid hK_; clear hK_; go_wp2_with (first | (go_at_call 80; (with_reducible refine (HNUM.out _).mono ?_); rintro e wa ⟨rfl, hba⟩; have hac := bc hba; have haf := bf hba; have haz := hba.size; try simp only [World.size_alloc, World.size_drew] at haz) | (go_at_call 79; (with_reducible refine (HCOW.out _ (by exact blw) _ (by first | rfl | go_num)).mono ?_); rintro e wc ⟨rfl, hbc⟩)); refine HK_.out _ _ (wld_ofA) ?_; clear HK_)
      (refine tree_quiet gtA (by rfl) (by rfl) (fun K_ hK_ => ?_); go_big_quiet_op; refine hK_ _ ?_; clear hK_ K_)
      (refine tree_run gtA (by rfl) (by rfl) (fun K_ hK_ => ?_); have HK_ := Lib.hid hK_; clear hK_; go_wp2_with (first | (go_at_call 80; (with_reducible refine (HNUM.out _).mono ?_); rintro e wa ⟨rfl, hba⟩; have hac := bc hba; have haf := bf hba; have haz := hba.size; try simp only [World.size_alloc, World.size_drew] at haz) | (go_at_call 79; (with_reducible refine (HCOW.out _ (by exact blw) _ (by first | rfl | go_num)).mono ?_); rintro e wc ⟨rfl, hbc⟩)); refine HK_.out _ _ (wld_ofA) ?_; clear HK_)
      (refine tree_quiet gtA (by rfl) (by rfl) (fun K_ hK_ => ?_); go_big_quiet_op; refine hK_ _ ?_; clear hK_ K_)
      (refine tree_quiet gtA (by rfl) (by rfl) (fun K_ hK_ => ?_); go_big_quiet_op; refine hK_ _ ?_; clear hK_ K_)
      (refine tree_quiet gtA (by rfl) (by rfl) (fun K_ hK_ => ?_); go_big_quiet_op; refine hK_ _ ?_; clear hK_ K_)
      (refine tree_quiet gtA (by rfl) (by rfl) (fun K_ hK_ => ?_); go_big_quiet_op; refine hK_ _ ?_; clear hK_ K_)
      (refine tree_quiet gtA (by rfl) (by rfl) (fun K_ hK_ => ?_); go_big_quiet_op; refine hK_ _ ?_; clear hK_ K_)
      refine tree_nil ?_
      clear hG_
      go_wp2_with fail
      go_ret
      rw [← HRUN.out]
      exact ⟨some ⟨gk, okk, none⟩, ck, by show Ending.returned (.slice _ m ck) = Ending.returned (.slice _ qs.length ck); rw [HM.out], HM.out ▸ owns_below HOW.out (by exact blw) (Nat.le_refl _), HGW.out.below (by exact blw), HKW.out.trans (KeepC.of (by exact blw) (by omega))⟩
    have eP : max P 0 = P := by omega
    have dP : decide (0 ≤ P) = true := decide_eq_true (by omega)
    rw [if_neg hP0] at hrun
    rw [dP, eP] at HCOW
    have hg64 := HGP.out
    have hgk : N ≤ gk := (HOW.out.lt gk rfl).1
    have hgkw : gk < w.heap.size := HKB.out _ rfl
    have HROW := Lib.hid (fun V (hV : Below W.heap.size W V) => owns_below HOW.out hV (Nat.le_refl _))
    have HGOV := Lib.hid (fun V (hV : Below W.heap.size W V) => owns_below HGOW.out hV (Nat.le_refl _))
    by_cases hS : 2147483648 ≤ X ∨ X / 1073741824 % 2 = 1
    · obtain ⟨y, bS, yn⟩ : ∃ y, bits .and .i64 (X : Int) 3221225472 = y ∧ y ≠ 0 := ⟨_, rfl, by have := both_yes X (by omega) hS; simpa using this⟩
      have y1 : (y == 0) = false := by simpa using yn
      have y2 : (y != 0) = true := by simpa using yn
      rw [if_pos hS] at hrun
      have hQ := atN_le (bs.drop P24) (sum + P)
      have HLIW := Lib.hid (fun V (hV : Below W.heap.size W V) (z : Int) (hz : z = sum + P) => show Calls Try.prog 79 #[.agg #[.slice (adv ab cb P24) (nb - P24) (cb - P24)], .int .i64 z] V fun e w' => e = .returned (.tuple #[.int .i64 (max (atN (bs.drop P24) (sum + P)) 0), .bool (decide (0 ≤ atN (bs.drop P24) (sum + P)))]) ∧ Below V.heap.size V w' from by
        subst hz
        exact HLI.out V (HKW.out.trans (KeepC.of hV (by omega))) (sum + P) (by omega))
      obtain ⟨Q, hQe⟩ : ∃ Q, Q = atN (bs.drop P24) (sum + P) := ⟨_, rfl⟩
      rw [← hQe] at hQ HLIW hrun
      clear hQe
      by_cases hQ0 : Q < 0
      · rw [if_pos hQ0] at hrun
        have HRUN := Lib.hid hrun
        have dQ : decide (0 ≤ Q) = false := decide_eq_false (by omega)
        have eQ : max Q 0 = 0 := by omega
        rw [dQ, eQ] at HLIW
        clear hrun
        refine wp_region_tree (.step 0 (.step 1 (.step 2 (.step 3 (.step 4 (.step 5 (.step 6 (.step 7 (.step 8 (.step 9 (.step 10 (.step 11 (.step 12 (.step 13 (.step 14 .nil))))))))))))))) (by kernel_rfl) (by kernel_rfl) (by kernel_rfl) (by kernel_rfl) (by intro _ _ d_ _ _ h_; cases d_ <;> first | exact h_ | (dsimp +zetaDelta only at h_ ⊢; exact h_)) (fun w' => ∃ p : Wld W [], w' = p.val) (wld_start _ _) ?_
        have hG_ := @wldC W
        (refine tree_quiet gtA (by rfl) (by rfl) (fun K_ hK_ => ?_); go_big_quiet_op; refine hK_ _ ?_; clear hK_ K_)
        (refine tree_quiet gtA (by rfl) (by rfl) (fun K_ hK_ => ?_); go_big_quiet_op; refine hK_ _ ?_; clear hK_ K_)
        (refine tree_quiet gtA (by rfl) (by rfl) (fun K_ hK_ => ?_); go_big_quiet_op; refine hK_ _ ?_; clear hK_ K_)
        (refine tree_quiet gtA (by rfl) (by rfl) (fun K_ hK_ => ?_); go_big_quiet_op; refine hK_ _ ?_; clear hK_ K_)
        (refine tree_quiet gtA (by rfl) (by rfl) (fun K_ hK_ => ?_); go_big_quiet_op; refine hK_ _ ?_; clear hK_ K_)
        (refine tree_quiet gtA (by rfl) (by rfl) (fun K_ hK_ => ?_); go_big_quiet_op; refine hK_ _ ?_; clear hK_ K_)
        (refine tree_quiet gtA (by rfl) (by rfl) (fun K_ hK_ => ?_); go_big_quiet_op; refine hK_ _ ?_; clear hK_ K_)
        (refine tree_run gtA (by rfl) (by rfl) (fun K_ hK_ => ?_); have HK_ := Lib.hid hK_; clear hK_; go_wp2_with (first | (go_at_call 80; (with_reducible refine (HNUM.out _).mono ?_); rintro e wa ⟨rfl, hba⟩; have hac := bc hba; have haf := bf hba; have haz := hba.size; try simp only [World.size_alloc, World.size_drew] at haz) | (go_at_call 79; (with_reducible refine (HCOW.out _ (by exact blw) _ (by first | rfl | go_num)).mono ?_); rintro e wc ⟨rfl, hbc⟩)); refine HK_.out _ _ (wld_ofA) ?_; clear HK_)
        (refine tree_quiet gtA (by rfl) (by rfl) (fun K_ hK_ => ?_); go_big_quiet_op; refine hK_ _ ?_; clear hK_ K_)
        (refine tree_run gtA (by rfl) (by rfl) (fun K_ hK_ => ?_); have HK_ := Lib.hid hK_; clear hK_; go_wp2_with (first | (go_at_call 80; (with_reducible refine (HNUM.out _).mono ?_); rintro e wa ⟨rfl, hba⟩; have hac := bc hba; have haf := bf hba; have haz := hba.size; try simp only [World.size_alloc, World.size_drew] at haz) | (go_at_call 79; (with_reducible refine (HCOW.out _ (by exact blw) _ (by first | rfl | go_num)).mono ?_); rintro e wc ⟨rfl, hbc⟩)); refine HK_.out _ _ (wld_ofA) ?_; clear HK_)
        (refine tree_quiet gtA (by rfl) (by rfl) (fun K_ hK_ => ?_); go_big_quiet_op; refine hK_ _ ?_; clear hK_ K_)
        (refine tree_quiet gtA (by rfl) (by rfl) (fun K_ hK_ => ?_); go_big_quiet_op; refine hK_ _ ?_; clear hK_ K_)
        (refine tree_quiet gtA (by rfl) (by rfl) (fun K_ hK_ => ?_); go_big_quiet_op; refine hK_ _ ?_; clear hK_ K_)
        (refine tree_quiet gtA (by rfl) (by rfl) (fun K_ hK_ => ?_); go_big_quiet_op; refine hK_ _ ?_; clear hK_ K_)
        (refine tree_quiet gtA (by rfl) (by rfl) (fun K_ hK_ => ?_); go_big_quiet_op; refine hK_ _ ?_; clear hK_ K_)
        refine tree_nil ?_
        clear hG_
        have xt2 := HNA.out wc (HKW.out.trans (KeepC.of (show Below W.heap.size W wc from by exact blw) (by omega)))
        have qt2 := fun o => cell_of_heap xt2 o
        have lt2 := (Array.getElem?_eq_some_iff.1 xt2).1
        clear xt2
        go_wp2_with (go_at_call 79; (with_reducible refine (HLIW.out _ (by exact blw) _ (by go_num)).mono ?_); rintro e wd ⟨rfl, hbd⟩)
        go_ret
        rw [← HRUN.out]
        exact ⟨some ⟨gk, okk, none⟩, ck, by show Ending.returned (.slice _ m ck) = Ending.returned (.slice _ qs.length ck); rw [HM.out], HM.out ▸ HROW.out _ (by exact blw), HGW.out.below (by exact blw), HKW.out.trans (KeepC.of (by exact blw) (by omega))⟩
      have eQ : max Q 0 = Q := by omega
      have dQ : decide (0 ≤ Q) = true := decide_eq_true (by omega)
      rw [if_neg hQ0] at hrun
      rw [dQ, eQ] at HLIW
      have hone : (oneL l1 (j : Nat) Q gone).length = l.length := by rw [oneL_length, hll]
      have HONE := Lib.hid (oneL_ids l1 (j : Nat) Q gone HID1.out (by omega) hQ.2)
      have HUN := Lib.hid (fun V (hV : Below W.heap.size W V) => unite_any B w.heap.size gl a c l1 (j : Nat) Q ag gone.length cg gone V (HGW.out.below hV) (HGOV.out V hV) rfl hB (by have := hV.size; omega) (by omega) (by omega))
      obtain ⟨L1, hL1⟩ : ∃ L1, L1 = oneL l1 (j : Nat) Q gone := ⟨_, rfl⟩
      rw [← hL1] at hone HONE HUN hrun
      clear hL1
      by_cases hX31 : 2147483648 ≤ X
      · rw [if_pos hX31] at hrun
        have HRUN := Lib.hid (show R = (L1, qs ++ [(j : Int)]) from by
          rw [← hrun]
          have := push_again HAPP.out HKL1.out.1 (i := (j : Int)) (by simp)
          rw [List.dropLast_concat] at this
          rw [this])
        have bL : bits .and .i64 (X : Int) 2147483648 = 2147483648 := last_yes X (by omega) hX31
        clear hrun
        refine wp_region_tree (.step 0 (.step 1 (.step 2 (.step 3 (.step 4 (.step 5 (.step 6 (.step 7 (.step 8 (.step 9 (.step 10 (.step 11 (.step 12 (.step 13 (.step 14 .nil))))))))))))))) (by kernel_rfl) (by kernel_rfl) (by kernel_rfl) (by kernel_rfl) (by intro _ _ d_ _ _ h_; cases d_ <;> first | exact h_ | (dsimp +zetaDelta only at h_ ⊢; exact h_)) (fun w' => ∃ p : Wld W [], w' = p.val) (wld_start _ _) ?_
        have hG_ := @wldC W
        (refine tree_quiet gtA (by rfl) (by rfl) (fun K_ hK_ => ?_); go_big_quiet_op; refine hK_ _ ?_; clear hK_ K_)
        (refine tree_quiet gtA (by rfl) (by rfl) (fun K_ hK_ => ?_); go_big_quiet_op; refine hK_ _ ?_; clear hK_ K_)
        (refine tree_quiet gtA (by rfl) (by rfl) (fun K_ hK_ => ?_); go_big_quiet_op; refine hK_ _ ?_; clear hK_ K_)
        (refine tree_quiet gtA (by rfl) (by rfl) (fun K_ hK_ => ?_); go_big_quiet_op; refine hK_ _ ?_; clear hK_ K_)
        (refine tree_quiet gtA (by rfl) (by rfl) (fun K_ hK_ => ?_); go_big_quiet_op; refine hK_ _ ?_; clear hK_ K_)
        (refine tree_quiet gtA (by rfl) (by rfl) (fun K_ hK_ => ?_); go_big_quiet_op; refine hK_ _ ?_; clear hK_ K_)
        (refine tree_quiet gtA (by rfl) (by rfl) (fun K_ hK_ => ?_); go_big_quiet_op; refine hK_ _ ?_; clear hK_ K_)
        (refine tree_run gtA (by rfl) (by rfl) (fun K_ hK_ => ?_); have HK_ := Lib.hid hK_; clear hK_; go_wp2_with (first | (go_at_call 80; (with_reducible refine (HNUM.out _).mono ?_); rintro e wa ⟨rfl, hba⟩; have hac := bc hba; have haf := bf hba; have haz := hba.size; try simp only [World.size_alloc, World.size_drew] at haz) | (go_at_call 79; (with_reducible refine (HCOW.out _ (by exact blw) _ (by first | rfl | go_num)).mono ?_); rintro e wc ⟨rfl, hbc⟩)); refine HK_.out _ _ (wld_ofA) ?_; clear HK_)
        (refine tree_quiet gtA (by rfl) (by rfl) (fun K_ hK_ => ?_); go_big_quiet_op; refine hK_ _ ?_; clear hK_ K_)
        (refine tree_run gtA (by rfl) (by rfl) (fun K_ hK_ => ?_); have HK_ := Lib.hid hK_; clear hK_; go_wp2_with (first | (go_at_call 80; (with_reducible refine (HNUM.out _).mono ?_); rintro e wa ⟨rfl, hba⟩; have hac := bc hba; have haf := bf hba; have haz := hba.size; try simp only [World.size_alloc, World.size_drew] at haz) | (go_at_call 79; (with_reducible refine (HCOW.out _ (by exact blw) _ (by first | rfl | go_num)).mono ?_); rintro e wc ⟨rfl, hbc⟩)); refine HK_.out _ _ (wld_ofA) ?_; clear HK_)
        (refine tree_quiet gtA (by rfl) (by rfl) (fun K_ hK_ => ?_); go_big_quiet_op; refine hK_ _ ?_; clear hK_ K_)
        (refine tree_quiet gtA (by rfl) (by rfl) (fun K_ hK_ => ?_); go_big_quiet_op; refine hK_ _ ?_; clear hK_ K_)
        (refine tree_quiet gtA (by rfl) (by rfl) (fun K_ hK_ => ?_); go_big_quiet_op; refine hK_ _ ?_; clear hK_ K_)
        (refine tree_quiet gtA (by rfl) (by rfl) (fun K_ hK_ => ?_); go_big_quiet_op; refine hK_ _ ?_; clear hK_ K_)
        (refine tree_quiet gtA (by rfl) (by rfl) (fun K_ hK_ => ?_); go_big_quiet_op; refine hK_ _ ?_; clear hK_ K_)
        refine tree_nil ?_
        clear hG_
        have xt2 := HNA.out wc (HKW.out.trans (KeepC.of (show Below W.heap.size W wc from by exact blw) (by omega)))
        have qt2 := fun o => cell_of_heap xt2 o
        have lt2 := (Array.getElem?_eq_some_iff.1 xt2).1
        clear xt2
        go_wp2_with (first
          | (go_at_call 79; (with_reducible refine (HLIW.out _ (by exact blw) _ (by go_num)).mono ?_); rintro e wd ⟨rfl, hbd⟩)
          | (go_at_call 81; (with_reducible refine (HUN.out _ (by exact blw)).mono ?_); rintro e wu ⟨rfl, hgu, hku⟩; have HGU := Lib.hid hgu; have HKU := Lib.hid hku; have hbW2 : Below W.heap.size W wd := (by exact blw); have HKV := Lib.hid (HKW.out.trans (KeepC.of (own := ownP (a.map (·.block)) N) hbW2 (by omega))); have HROU := Lib.hid (hku.owns (HROW.out _ hbW2) (fun k h => absurd h.1 (by decide))); have hzu := hku.size; have hzd := hbW2.size; clear hgu hku)
          | (at_builtin; refine wpAppF rfl _ _ 23 rfl N 3 (.int .i64 0) 1 8 Try.underlying23 info_int rfl (by decide) _ m ck (iv qs) rfl (owns_below HROU.out (balloc (brefl wu) _) (Nat.le_refl _)) ⟨wu.heap.size, 0, none⟩ 1 1 (by decide) (iv [(j : Int)]) rfl rfl (has_alloc _ _ _) (iv_one _) (by unfold maxLen; omega) (by omega) (by simp only [World.size_alloc]; omega) ?_; intro a1 c1 w1 h1 h2 h3 h4 h5 h6 h7; rw [← iv_append] at h1; have HR1 := Lib.hid h1; have HAK := Lib.hid (app_keep (B := B) (N := N) HROU.out hBN (by omega) (by omega) h5 h6); have HGB := Lib.hid h6; clear h1 h2 h3 h4 h5 h6 h7))
        go_ret
        rw [HRUN.out]
        have hlen : (qs ++ [(j : Int)]).length = m + 1 := by simp [HM.out]
        rw [hlen]
        exact ⟨a1, c1, rfl, HR1.out, HGU.out.keepI HAK.out (fun k h => absurd h.1 (by decide)) (fun k h => absurd h.1 (by decide)), (HKV.out.trans HKU.out.ofP).trans HAK.out.ofI⟩
      · rw [if_neg hX31] at hrun
        have bL : bits .and .i64 (X : Int) 2147483648 = 0 := last_no X (by omega) hX31
        have HRUN := Lib.hid hrun
        clear hrun
        refine wp_region_tree (.step 0 (.step 1 (.step 2 (.step 3 (.step 4 (.step 5 (.step 6 (.step 7 (.step 8 (.step 9 (.step 10 (.step 11 (.step 12 (.step 13 (.step 14 .nil))))))))))))))) (by kernel_rfl) (by kernel_rfl) (by kernel_rfl) (by kernel_rfl) (by intro _ _ d_ _ _ h_; cases d_ <;> first | exact h_ | (dsimp +zetaDelta only at h_ ⊢; exact h_)) (fun w' => ∃ p : Wld W [], w' = p.val) (wld_start _ _) ?_
        have hG_ := @wldC W
        (refine tree_quiet gtA (by rfl) (by rfl) (fun K_ hK_ => ?_); go_big_quiet_op; refine hK_ _ ?_; clear hK_ K_)
        (refine tree_quiet gtA (by rfl) (by rfl) (fun K_ hK_ => ?_); go_big_quiet_op; refine hK_ _ ?_; clear hK_ K_)
        (refine tree_quiet gtA (by rfl) (by rfl) (fun K_ hK_ => ?_); go_big_quiet_op; refine hK_ _ ?_; clear hK_ K_)
        (refine tree_quiet gtA (by rfl) (by rfl) (fun K_ hK_ => ?_); go_big_quiet_op; refine hK_ _ ?_; clear hK_ K_)
        (refine tree_quiet gtA (by rfl) (by rfl) (fun K_ hK_ => ?_); go_big_quiet_op; refine hK_ _ ?_; clear hK_ K_)
        (refine tree_quiet gtA (by rfl) (by rfl) (fun K_ hK_ => ?_); go_big_quiet_op; refine hK_ _ ?_; clear hK_ K_)
        (refine tree_quiet gtA (by rfl) (by rfl) (fun K_ hK_ => ?_); go_big_quiet_op; refine hK_ _ ?_; clear hK_ K_)
        (refine tree_run gtA (by rfl) (by rfl) (fun K_ hK_ => ?_); have HK_ := Lib.hid hK_; clear hK_; go_wp2_with (first | (go_at_call 80; (with_reducible refine (HNUM.out _).mono ?_); rintro e wa ⟨rfl, hba⟩; have hac := bc hba; have haf := bf hba; have haz := hba.size; try simp only [World.size_alloc, World.size_drew] at haz) | (go_at_call 79; (with_reducible refine (HCOW.out _ (by exact blw) _ (by first | rfl | go_num)).mono ?_); rintro e wc ⟨rfl, hbc⟩)); refine HK_.out _ _ (wld_ofA) ?_; clear HK_)
        (refine tree_quiet gtA (by rfl) (by rfl) (fun K_ hK_ => ?_); go_big_quiet_op; refine hK_ _ ?_; clear hK_ K_)
        (refine tree_run gtA (by rfl) (by rfl) (fun K_ hK_ => ?_); have HK_ := Lib.hid hK_; clear hK_; go_wp2_with (first | (go_at_call 80; (with_reducible refine (HNUM.out _).mono ?_); rintro e wa ⟨rfl, hba⟩; have hac := bc hba; have haf := bf hba; have haz := hba.size; try simp only [World.size_alloc, World.size_drew] at haz) | (go_at_call 79; (with_reducible refine (HCOW.out _ (by exact blw) _ (by first | rfl | go_num)).mono ?_); rintro e wc ⟨rfl, hbc⟩)); refine HK_.out _ _ (wld_ofA) ?_; clear HK_)
        (refine tree_quiet gtA (by rfl) (by rfl) (fun K_ hK_ => ?_); go_big_quiet_op; refine hK_ _ ?_; clear hK_ K_)
        (refine tree_quiet gtA (by rfl) (by rfl) (fun K_ hK_ => ?_); go_big_quiet_op; refine hK_ _ ?_; clear hK_ K_)
        (refine tree_quiet gtA (by rfl) (by rfl) (fun K_ hK_ => ?_); go_big_quiet_op; refine hK_ _ ?_; clear hK_ K_)
        (refine tree_quiet gtA (by rfl) (by rfl) (fun K_ hK_ => ?_); go_big_quiet_op; refine hK_ _ ?_; clear hK_ K_)
        (refine tree_quiet gtA (by rfl) (by rfl) (fun K_ hK_ => ?_); go_big_quiet_op; refine hK_ _ ?_; clear hK_ K_)
        refine tree_nil ?_
        clear hG_
        have xt2 := HNA.out wc (HKW.out.trans (KeepC.of (show Below W.heap.size W wc from by exact blw) (by omega)))
        have qt2 := fun o => cell_of_heap xt2 o
        have lt2 := (Array.getElem?_eq_some_iff.1 xt2).1
        clear xt2
        go_wp2_with (first
          | (go_at_call 79; (with_reducible refine (HLIW.out _ (by exact blw) _ (by go_num)).mono ?_); rintro e wd ⟨rfl, hbd⟩)
          | (go_at_call 81; (with_reducible refine (HUN.out _ (by exact blw)).mono ?_); rintro e wu ⟨rfl, hgu, hku⟩; have HGU := Lib.hid hgu; have HKU := Lib.hid hku; have hbW2 : Below W.heap.size W wd := (by exact blw); have HKV := Lib.hid (HKW.out.trans (KeepC.of (own := ownP (a.map (·.block)) N) hbW2 (by omega))); have HROU := Lib.hid (hku.owns (HROW.out _ hbW2) (fun k h => absurd h.1 (by decide))); have hzu := hku.size; have hzd := hbW2.size; clear hgu hku)
          | (at_builtin; refine wpAppF rfl _ _ 23 rfl w.heap.size 3 (.int .i64 0) 1 8 Try.underlying23 info_int rfl (by decide) none 0 0 (iv ([] : List Int)) rfl (owns_below (World.ownsRow_nil wu w.heap.size _ _) (balloc (brefl wu) _) (Nat.le_refl _)) ⟨wu.heap.size, 0, none⟩ 1 1 (by decide) (iv [(j : Int)]) rfl rfl (has_alloc _ _ _) (iv_one _) (by unfold maxLen; omega) (by omega) (by simp only [World.size_alloc]; omega) ?_; intro a1 c1 w1 h1 h2 h3 h4 h5 h6 h7; rw [← iv_append] at h1; have HR1 := Lib.hid h1; have HAK := Lib.hid (app_keep (B := B) (N := N) (World.ownsRow_nil wu w.heap.size _ _) hBN (by omega) (by omega) h5 h6); have HGB := Lib.hid h6; clear h1 h2 h3 h4 h5 h6 h7))
        go_roundw
        case rel =>
          refine ⟨qs, L1, k + 1, sum + P, [(j : Int)], a1, c1, by rw [HM.out], by go_num, rfl, rfl, ?_, HR1.out, HGU.out.keepI HAK.out (fun k h => absurd h.1 (by decide)) (fun k h => absurd h.1 (by decide)), hone, HONE.out, ⟨by have := HKL1.out.1; simp at this; omega, fun i hi => HKL1.out.2 i (by simp [hi])⟩, by have := HAPP.out.dropLast; rwa [List.dropLast_concat] at this, HSTEP.out hX31, by omega, by rw [← HM.out]; omega, by rw [← HM.out, List.length_singleton]; omega, (HKV.out.trans HKU.out.ofP).trans HAK.out.ofI, by rw [← HM.out]; exact HRUN.out⟩
          rw [← HM.out]
          refine owns_keepB HROU.out fun g' hg' => ?_
          cases hg'
          exact (HGB.out.block gk (by rw [World.size_alloc]; omega) (by intro e; cases e)).trans ((balloc (brefl wu) _).block gk (by omega))
        case measure => simp [HM.out]
    · have bS := both_no X (by omega) hS
      rw [if_neg hS] at hrun
      have hX31 : ¬ 2147483648 ≤ X := fun h => hS (.inl h)
      have bL : bits .and .i64 (X : Int) 2147483648 = 0 := last_no X (by omega) hX31
      have HRUN := Lib.hid hrun
      clear hrun
      refine wp_region_tree (.step 0 (.step 1 (.step 2 (.step 3 (.step 4 (.step 5 (.step 6 (.step 7 (.step 8 (.step 9 (.step 10 (.step 11 (.step 12 (.step 13 (.step 14 .nil))))))))))))))) (by kernel_rfl) (by kernel_rfl) (by kernel_rfl) (by kernel_rfl) (by intro _ _ d_ _ _ h_; cases d_ <;> first | exact h_ | (dsimp +zetaDelta only at h_ ⊢; exact h_)) (fun w' => ∃ p : Wld W [], w' = p.val) (wld_start _ _) ?_
      have hG_ := @wldC W
      (refine tree_quiet gtA (by rfl) (by rfl) (fun K_ hK_ => ?_); go_big_quiet_op; refine hK_ _ ?_; clear hK_ K_)
      (refine tree_quiet gtA (by rfl) (by rfl) (fun K_ hK_ => ?_); go_big_quiet_op; refine hK_ _ ?_; clear hK_ K_)
      (refine tree_quiet gtA (by rfl) (by rfl) (fun K_ hK_ => ?_); go_big_quiet_op; refine hK_ _ ?_; clear hK_ K_)
      (refine tree_quiet gtA (by rfl) (by rfl) (fun K_ hK_ => ?_); go_big_quiet_op; refine hK_ _ ?_; clear hK_ K_)
      (refine tree_quiet gtA (by rfl) (by rfl) (fun K_ hK_ => ?_); go_big_quiet_op; refine hK_ _ ?_; clear hK_ K_)
      (refine tree_quiet gtA (by rfl) (by rfl) (fun K_ hK_ => ?_); go_big_quiet_op; refine hK_ _ ?_; clear hK_ K_)
      (refine tree_quiet gtA (by rfl) (by rfl) (fun K_ hK_ => ?_); go_big_quiet_op; refine hK_ _ ?_; clear hK_ K_)
      (refine tree_run gtA (by rfl) (by rfl) (fun K_ hK_ => ?_); have HK_ := Lib.hid hK_; clear hK_; go_wp2_with (first | (go_at_call 80; (with_reducible refine (HNUM.out _).mono ?_); rintro e wa ⟨rfl, hba⟩; have hac := bc hba; have haf := bf hba; have haz := hba.size; try simp only [World.size_alloc, World.size_drew] at haz) | (go_at_call 79; (with_reducible refine (HCOW.out _ (by exact blw) _ (by first | rfl | go_num)).mono ?_); rintro e wc ⟨rfl, hbc⟩)); refine HK_.out _ _ (wld_ofA) ?_; clear HK_)
      (refine tree_quiet gtA (by rfl) (by rfl) (fun K_ hK_ => ?_); go_big_quiet_op; refine hK_ _ ?_; clear hK_ K_)
      (refine tree_run gtA (by rfl) (by rfl) (fun K_ hK_ => ?_); have HK_ := Lib.hid hK_; clear hK_; go_wp2_with (first | (go_at_call 80; (with_reducible refine (HNUM.out _).mono ?_); rintro e wa ⟨rfl, hba⟩; have hac := bc hba; have haf := bf hba; have haz := hba.size; try simp only [World.size_alloc, World.size_drew] at haz) | (go_at_call 79; (with_reducible refine (HCOW.out _ (by exact blw) _ (by first | rfl | go_num)).mono ?_); rintro e wc ⟨rfl, hbc⟩)); refine HK_.out _ _ (wld_ofA) ?_; clear HK_)
      (refine tree_quiet gtA (by rfl) (by rfl) (fun K_ hK_ => ?_); go_big_quiet_op; refine hK_ _ ?_; clear hK_ K_)
      (refine tree_quiet gtA (by rfl) (by rfl) (fun K_ hK_ => ?_); go_big_quiet_op; refine hK_ _ ?_; clear hK_ K_)
      (refine tree_quiet gtA (by rfl) (by rfl) (fun K_ hK_ => ?_); go_big_quiet_op; refine hK_ _ ?_; clear hK_ K_)
      (refine tree_quiet gtA (by rfl) (by rfl) (fun K_ hK_ => ?_); go_big_quiet_op; refine hK_ _ ?_; clear hK_ K_)
      (refine tree_quiet gtA (by rfl) (by rfl) (fun K_ hK_ => ?_); go_big_quiet_op; refine hK_ _ ?_; clear hK_ K_)
      refine tree_nil ?_
      clear hG_
      have hbW2 : Below W.heap.size W wc := (by exact blw)
      have hzd := hbW2.size
      have HB2 := Lib.hid hbW2
      have HGV := Lib.hid (HGOV.out _ hbW2)
      go_wp2_with (first | (at_builtin; refine wpAppF rfl _ _ 23 rfl w.heap.size 3 (.int .i64 0) 1 8 Try.underlying23 info_int rfl (by decide) ag gone.length cg (iv gone) rfl (owns_below HGV.out (balloc (brefl wc) _) (Nat.le_refl _)) ⟨wc.heap.size, 0, none⟩ 1 1 (by decide) (iv [(j : Int)]) rfl rfl (has_alloc _ _ _) (iv_one _) (by unfold maxLen; omega) (by omega) (by simp only [World.size_alloc]; omega) ?_; intro a1 c1 w1 h1 h2 h3 h4 h5 h6 h7; rw [← iv_append] at h1; have HR1 := Lib.hid h1; have HAK := Lib.hid (app_keep (B := B) (N := N) HGV.out hBN (by omega) (by omega) h5 h6); have HGB := Lib.hid h6; clear h1 h2 h3 h4 h5 h6 h7))
      go_roundw
      case rel =>
        refine ⟨qs, l1, k + 1, sum + P, gone ++ [(j : Int)], a1, c1, by rw [HM.out], by go_num, by rw [List.length_append]; rfl, rfl, ?_, by rw [List.length_append]; exact HR1.out, (HGW.out.below HB2.out).keepI HAK.out (fun k h => absurd h.1 (by decide)) (fun k h => absurd h.1 (by decide)), hll, HID1.out, ⟨by have := HKL1.out.1; simp at this; omega, fun i hi => HKL1.out.2 i (by simp [hi])⟩, by have := HAPP.out.dropLast; rwa [List.dropLast_concat] at this, HSTEP.out hX31, by omega, by rw [← HM.out]; omega, by rw [← HM.out, List.length_append, List.length_singleton]; omega, (HKW.out.trans (KeepC.of HB2.out (by omega))).trans HAK.out.ofI, by rw [← HM.out]; exact HRUN.out⟩
        rw [← HM.out]
        refine owns_keepB (HROW.out _ HB2.out) fun g' hg' => ?_
        cases hg'
        exact (HGB.out.block gk (by rw [World.size_alloc]; omega) (by intro e; have := (HGV.out.lt gk e.symm).1; omega)).trans ((balloc (brefl wc) _).block gk (by omega))
      case measure => simp [HM.out]
end Go.Proofs.Ythehcbbdkiomnaa
end
