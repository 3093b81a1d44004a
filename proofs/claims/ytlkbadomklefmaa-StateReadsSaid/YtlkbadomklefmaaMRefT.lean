
/- The document's Get of a lookup. Conditions: as each says. -/
import Derived.Test.YtlkbadomklefmaaLRefS
import Derived.Test.YtlkbadomklefmaaMRefG
namespace Go.Proofs.Ytlkbadomklefmaa
open Go.RowKit Go.Lib

set_option maxRecDepth 100000 in
set_option maxHeartbeats 3200000 in
theorem refget_any (a : Option Addr) (n c : Nat) (bs : List UInt8) (a' : Option Addr) (c' : Nat) (rs : List RP) (id : Int) (w : World) (h : Has w a (bytesV bs)) (hl : bs.length = n) (hn : n ≤ 100000000) (hr : Has w a' (encRs rs)) (hrl : rs.length ≤ 100000) (hf : ∀ r ∈ rs, fitG n r) (hid : -9223372036854775808 ≤ id ∧ id ≤ 9223372036854775807) :
    Calls Try.prog 35 #[.agg #[.slice a n c, .slice a' rs.length c'], .int .i64 id] w fun e w' => e = .returned (.tuple #[.int .i64 ((refG bs rs id).1 : Nat), .bool (refG bs rs id).2]) ∧ Below w.heap.size w w' := by
  have hAC := allocC
  have hAF := allocF
  have HH := Lib.hid h
  have HL := Lib.hid hl
  have HR := Lib.hid hr
  have HF := Lib.hid hf
  obtain ⟨L, hL⟩ : ∃ L, L = rs.length := ⟨_, rfl⟩
  rw [← hL] at hrl ⊢
  have HLr := Lib.hid hL
  clear h hl hr hf hL
  go_enter Try.func35, Try.ntmps35
  go_wp2_with fail
  obtain ⟨V, hV⟩ : ∃ V, V = (w.alloc (Obj.cells #[.slice a n c, .slice a' L c'] 31)) := ⟨_, rfl⟩
  have hb : Below w.heap.size w V := by rw [hV]; exact balloc (brefl w) _
  have z0 : V.heap[w.heap.size]? = some (.cells #[.slice a n c, .slice a' L c'] 31 (0, 0)) := by rw [hV, heap_push, if_pos rfl]
  rw [← hV]
  have HB := Lib.hid hb
  have Z0 := Lib.hid z0
  have hl0 := (Array.getElem?_eq_some_iff.1 z0).1
  have hwV := hb.size
  clear hV hb z0
  go_loopw [6] (fun i wr => ∃ j : Nat, j ≤ L ∧ i = .int .i64 (j : Nat) ∧ (∀ x ∈ rs.take j, inR id x = false) ∧ Below V.heap.size V wr) (fun i _ => L - (intOf i).toNat)
  case atStart => exact ⟨0, Nat.zero_le _, rfl, fun x hx => by simp at hx, brefl _⟩
  case round =>
    obtain ⟨j, hj, rfl, hno, hbr⟩ := hrel
    have HNO := Lib.hid hno
    have HBR := Lib.hid (HB.out.trans (hbr.mono hwV))
    have HBR0 := Lib.hid hbr
    have z0 := (hbr.block _ hl0).trans Z0.out
    have q0 := fun o => cell_of_heap z0 o
    have l0 := (Array.getElem?_eq_some_iff.1 z0).1
    clear hno hbr z0
    by_cases hlt : j < L
    · obtain ⟨r, hr⟩ : ∃ r, rs[j]? = some r := ⟨_, List.getElem?_eq_getElem (by rw [← HLr.out]; exact hlt)⟩
      have hfr := HF.out r (List.mem_of_getElem? hr)
      have HE := HR.out.below HBR.out
      obtain ⟨bE, oE, hbE, hblE, hcE⟩ := HE.get (by
        rcases Nat.eq_zero_or_pos (encRs rs).length with g0 | g0
        · have := encRs_get rs j r hr 0 (by omega)
          rw [List.getElem?_eq_none (by omega)] at this
          simp [encR] at this
        · exact g0)
      have e0 := hcE (j * 5) _ (encRs_get rs j r hr 0 (by omega))
      have e1 := hcE (j * 5 + 1) _ (encRs_get rs j r hr 1 (by omega))
      have e2 := hcE (j * 5 + 2) _ (encRs_get rs j r hr 2 (by omega))
      have e3 := hcE (j * 5 + 3) _ (encRs_get rs j r hr 3 (by omega))
      have e4 := hcE (j * 5 + 4) _ (encRs_get rs j r hr 4 (by omega))
      simp only [← Nat.add_assoc] at e0 e1 e2 e3 e4
      subst hbE
      clear hcE HE
      have HZ := Lib.hid (refG_at bs rs id j r hr HNO.out)
      have HT := Lib.hid (show ∀ x ∈ rs.take (j + 1), inR id r = false → inR id x = false from fun x hx hfa => by
        rw [List.take_add_one, hr] at hx
        rcases List.mem_append.1 hx with hx | hx
        · exact HNO.out x hx
        · simp at hx
          rw [hx]
          exact hfa)
      have HAT := Lib.hid (fun h1 h2 => fitG_at hfr (id := id) h1 h2)
      obtain ⟨f1, f2, f3, f4⟩ := hfr
      have hin : inR id r = (decide ((r.first : Int) ≤ id) && decide (id ≤ (r.last : Int))) := rfl
      have HIN := Lib.hid hin
      have fa : r.at_ ≤ n := by
        split at f4 <;> omega
      clear hin f4 hr
      obtain ⟨st, hst⟩ : ∃ st, st = (if r.own = true then r.size else 0) := ⟨_, rfl⟩
      have hst4 : st ≤ 4 := by rw [hst]; split <;> omega
      have hst5 : st = 0 ∨ st = 1 ∨ st = 2 ∨ st = 4 := by rw [hst]; split <;> omega
      rw [← hst] at HZ HAT e4
      clear hst
      generalize r.first = F at *
      generalize r.last = E at *
      generalize r.at_ = A at *
      generalize r.size = S at *
      have lE := cell_lt e0
      simp only at lE
      by_cases h1 : (F : Int) ≤ id
      case neg =>
        have d1 : decide ((F : Int) ≤ id) = false := by simpa using h1
        have hfa : inR id r = false := by rw [HIN.out, d1]; rfl
        have HTT := Lib.hid (fun x hx => HT.out x hx hfa)
        clear hfa h1
        go_wp2_with fail
        go_roundw
        case rel => exact ⟨j + 1, hlt, by go_num, HTT.out, HBR0.out.trans (Below.mono (show Below wr.heap.size wr _ from by exact blw) HBR0.out.size)⟩
        case measure => simp [intOf]; omega
      have d1 : decide ((F : Int) ≤ id) = true := by simpa using h1
      by_cases h2 : id ≤ (E : Int)
      case neg =>
        have d2 : decide (id ≤ (E : Int)) = false := by simpa using h2
        have hfa : inR id r = false := by rw [HIN.out, d1, d2]; rfl
        have HTT := Lib.hid (fun x hx => HT.out x hx hfa)
        clear hfa h1 h2
        go_wp2_with fail
        go_roundw
        case rel => exact ⟨j + 1, hlt, by go_num, HTT.out, HBR0.out.trans (Below.mono (show Below wr.heap.size wr _ from by exact blw) HBR0.out.size)⟩
        case measure => simp [intOf]; omega
      have d2 : decide (id ≤ (E : Int)) = true := by simpa using h2
      have hz := HZ.out (by rw [HIN.out, d1, d2]; rfl)
      have hat := HAT.out h1 h2
      obtain ⟨k, rfl⟩ : ∃ k : Nat, id = (F : Int) + (k : Nat) := ⟨(id - F).toNat, by omega⟩
      have hk : ((F : Int) + (k : Nat) - (F : Int)).toNat = k := by omega
      rw [hk] at hz hat
      have HZZ := Lib.hid hz
      have HAT2 := Lib.hid hat
      have hF3 : (F : Int) + (k : Int) - (F : Int) = (k : Int) := by omega
      have hS4 : S ≤ n := by omega
      have hS5 : S ≤ 4 := by omega
      have hk7 : k ≤ 70000 := by omega
      clear hz hk HZ HAT HT HIN f3 hat
      rcases hst5 with rfl | rfl | rfl | rfl
      · have hat := HAT2.out
        have e4 : _ = some (Value.int .i64 0) := e4
        have HU := Lib.hid (fun W (hW : Below w.heap.size w W) (z y : Int) (hz : z = (A : Int) + ((0 * k : Nat) : Int)) (hy : y = (S : Nat)) => show Calls Try.prog 27 #[.slice a n c, .int .i64 z, .int .i64 y] W fun e w' => e = .returned (.int .i64 (num bs (A + 0 * k) S : Nat)) ∧ W = w' from by subst hz hy; rw [← Int.natCast_add]; exact u_in a n c (A + 0 * k) S bs W (HH.out.below hW) HL.out hat (by omega) (by unfold maxLen; omega))
        generalize num bs (A + 0 * k) S = X at *
        clear HAT2
        go_wp2_with (first | (go_at_call 27; (with_reducible refine (HU.out _ (HBR.out.trans (Below.mono (w := wr) (by exact blw) HBR.out.size)) _ _ (by omega) rfl).mono ?_); rintro e wu ⟨rfl, rfl⟩))
        refine bodyPost_ret (v := .tuple #[.int .i64 (X : Nat), .bool true]) (by simp [results, Try.results35, go_sem]) rfl ?_
        refine ⟨?_, HBR.out.trans (Below.mono (show Below wr.heap.size wr _ from by exact blw) HBR.out.size)⟩
        rw [HZZ.out]
      · have hat := HAT2.out
        have e4 : _ = some (Value.int .i64 1) := e4
        have HU := Lib.hid (fun W (hW : Below w.heap.size w W) (z y : Int) (hz : z = (A : Int) + ((1 * k : Nat) : Int)) (hy : y = (S : Nat)) => show Calls Try.prog 27 #[.slice a n c, .int .i64 z, .int .i64 y] W fun e w' => e = .returned (.int .i64 (num bs (A + 1 * k) S : Nat)) ∧ W = w' from by subst hz hy; rw [← Int.natCast_add]; exact u_in a n c (A + 1 * k) S bs W (HH.out.below hW) HL.out hat (by omega) (by unfold maxLen; omega))
        generalize num bs (A + 1 * k) S = X at *
        clear HAT2
        go_wp2_with (first | (go_at_call 27; (with_reducible refine (HU.out _ (HBR.out.trans (Below.mono (w := wr) (by exact blw) HBR.out.size)) _ _ (by omega) rfl).mono ?_); rintro e wu ⟨rfl, rfl⟩))
        refine bodyPost_ret (v := .tuple #[.int .i64 (X : Nat), .bool true]) (by simp [results, Try.results35, go_sem]) rfl ?_
        refine ⟨?_, HBR.out.trans (Below.mono (show Below wr.heap.size wr _ from by exact blw) HBR.out.size)⟩
        rw [HZZ.out]
      · have hat := HAT2.out
        have e4 : _ = some (Value.int .i64 2) := e4
        have HU := Lib.hid (fun W (hW : Below w.heap.size w W) (z y : Int) (hz : z = (A : Int) + ((2 * k : Nat) : Int)) (hy : y = (S : Nat)) => show Calls Try.prog 27 #[.slice a n c, .int .i64 z, .int .i64 y] W fun e w' => e = .returned (.int .i64 (num bs (A + 2 * k) S : Nat)) ∧ W = w' from by subst hz hy; rw [← Int.natCast_add]; exact u_in a n c (A + 2 * k) S bs W (HH.out.below hW) HL.out hat (by omega) (by unfold maxLen; omega))
        generalize num bs (A + 2 * k) S = X at *
        clear HAT2
        go_wp2_with (first | (go_at_call 27; (with_reducible refine (HU.out _ (HBR.out.trans (Below.mono (w := wr) (by exact blw) HBR.out.size)) _ _ (by omega) rfl).mono ?_); rintro e wu ⟨rfl, rfl⟩))
        refine bodyPost_ret (v := .tuple #[.int .i64 (X : Nat), .bool true]) (by simp [results, Try.results35, go_sem]) rfl ?_
        refine ⟨?_, HBR.out.trans (Below.mono (show Below wr.heap.size wr _ from by exact blw) HBR.out.size)⟩
        rw [HZZ.out]
      · have hat := HAT2.out
        have e4 : _ = some (Value.int .i64 4) := e4
        have HU := Lib.hid (fun W (hW : Below w.heap.size w W) (z y : Int) (hz : z = (A : Int) + ((4 * k : Nat) : Int)) (hy : y = (S : Nat)) => show Calls Try.prog 27 #[.slice a n c, .int .i64 z, .int .i64 y] W fun e w' => e = .returned (.int .i64 (num bs (A + 4 * k) S : Nat)) ∧ W = w' from by subst hz hy; rw [← Int.natCast_add]; exact u_in a n c (A + 4 * k) S bs W (HH.out.below hW) HL.out hat (by omega) (by unfold maxLen; omega))
        generalize num bs (A + 4 * k) S = X at *
        clear HAT2
        go_wp2_with (first | (go_at_call 27; (with_reducible refine (HU.out _ (HBR.out.trans (Below.mono (w := wr) (by exact blw) HBR.out.size)) _ _ (by omega) rfl).mono ?_); rintro e wu ⟨rfl, rfl⟩))
        refine bodyPost_ret (v := .tuple #[.int .i64 (X : Nat), .bool true]) (by simp [results, Try.results35, go_sem]) rfl ?_
        refine ⟨?_, HBR.out.trans (Below.mono (show Below wr.heap.size wr _ from by exact blw) HBR.out.size)⟩
        rw [HZZ.out]
    · obtain rfl : L = j := by omega
      have hz := refG_no bs rs id (by have := HNO.out; rwa [List.take_of_length_le (by rw [← HLr.out]; omega)] at this)
      have HZZ := Lib.hid hz
      clear hz
      go_wp2_with fail
      refine bodyPost_ret (v := .tuple #[.int .i64 0, .bool false]) (by simp [results, Try.results35, go_sem]) rfl ?_
      exact ⟨by rw [HZZ.out]; rfl, HBR.out⟩
end Go.Proofs.Ytlkbadomklefmaa
