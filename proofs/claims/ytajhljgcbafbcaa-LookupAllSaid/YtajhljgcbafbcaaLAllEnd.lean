
/- The walk of LookupAll. Condition: as many bytes as the slice says. -/
import Derived.Test.YtajhljgcbafbcaaLAllLaw
import Derived.Test.YtajhljgcbafbcaaLRefS
namespace Go.Proofs.Ytajhljgcbafbcaa
open Go.RowKit Go.Lib

set_option maxRecDepth 100000 in
set_option maxHeartbeats 3200000 in
theorem lookupAll_walk (a : Option Addr) (n c : Nat) (bs : List UInt8) (few : Nat) (hfew : few ≤ 255) (w : World) (h : Has w a (bytesV bs)) (hl : bs.length = n) (hn : n ≤ c) (hc : c ≤ maxLen) :
    Calls Try.prog 3 #[.slice a n c, .int .u8 (few : Nat)] w fun e w' => e = .returned (.bool true) ∧ Below w.heap.size w w' := by
  have hAC := allocC
  have hAF := allocF
  by_cases hbig : 400 < n
  · clear h hl
    unfold maxLen at hc
    go_enter Try.func3, Try.ntmps3
    go_wp2_with fail
    refine (speaks6_any _).mono ?_
    rintro e w1 ⟨rfl, hb1⟩
    have c4 := (hb1.cell (p := ⟨w.heap.size + 1, 0, none⟩) (by simp)).trans (by simp [hAC] : _ = some (Value.bool false))
    have f4 := (hb1.frozen (p := ⟨w.heap.size + 1, 0, none⟩) (by simp)).trans (by simp [hAF] : _ = false)
    have hl4 : w.heap.size + 1 < w1.heap.size := cell_lt c4
    have HB := Lib.hid (bthen (balloc (balloc (brefl w) _) _) hb1)
    clear hb1
    go_wp2_with fail
    refine bodyPost_ret (v := .bool true) (by simp [results, Try.results3, go_sem, c4, f4]) rfl ?_
    exact ⟨rfl, HB.out.setCell (p := ⟨w.heap.size + 1, 0, none⟩) (Nat.le_succ _) _⟩
  by_cases hok : ∃ rs, LkOk bs 40 2 rs
  · obtain ⟨rs, hok⟩ := hok
    exact lookupAll_some a n c bs few hfew rs w h hl hn hc (by omega) hok
  have HNO := Lib.hid (show ∀ rs, ¬ LkOk bs 40 2 rs from fun rs hr => hok ⟨rs, hr⟩)
  have HRD := Lib.hid (fun W hW => lread_none a n c bs 40 2 40 2 rfl rfl W (h.below hW) hl hn hc (by decide) (by decide) (by decide) HNO.out)
  have HRR := Lib.hid (fun W hW => refRead_any a n c bs 40 2 40 2 rfl rfl (by decide) (by decide) (by decide) W (h.below hW) hl hn hc (by omega))
  clear h hl hok
  go_enter Try.func3, Try.ntmps3
  go_wp2_with fail
  refine (speaks6_any _).mono ?_
  rintro e w1 ⟨rfl, hb1⟩
  have c4 := (hb1.cell (p := ⟨w.heap.size + 1, 0, none⟩) (by simp)).trans (by simp [hAC] : _ = some (Value.bool false))
  have f4 := (hb1.frozen (p := ⟨w.heap.size + 1, 0, none⟩) (by simp)).trans (by simp [hAF] : _ = false)
  have hl4 : w.heap.size + 1 < w1.heap.size := cell_lt c4
  have HB1 := Lib.hid (bthen (balloc (balloc (brefl w) _) _) hb1)
  clear hb1
  go_wp2_with fail
  refine (HRD.out _ HB1.out).mono ?_
  rintro e w2 ⟨rfl, hb2⟩
  have c42 := (hb2.cell (p := ⟨w.heap.size + 1, 0, none⟩) hl4).trans c4
  have f42 := (hb2.frozen (p := ⟨w.heap.size + 1, 0, none⟩) hl4).trans f4
  have hl42 : w.heap.size + 1 < w2.heap.size := cell_lt c42
  have HB2 := Lib.hid (bthen HB1.out hb2)
  clear hb2 c4 f4
  go_wp2_with fail
  refine (HRR.out _ (balloc HB2.out _)).mono ?_
  rintro e w3 ⟨(⟨rs, _, _, hr, _⟩ | ⟨_, rfl⟩), hb3⟩
  · exact absurd hr (HNO.out rs)
  have hl5 : w.heap.size + 1 < (w2.alloc (Obj.cells #[.pointer none] 24)).heap.size := by simp; omega
  have c43 := (hb3.cell (p := ⟨w.heap.size + 1, 0, none⟩) hl5).trans (show (w2.alloc (Obj.cells #[.pointer none] 24)).cell? ⟨w.heap.size + 1, 0, none⟩ = some (.bool false) from by rw [hAC, if_neg (by omega)]; exact c42)
  have f43 := (hb3.frozen (p := ⟨w.heap.size + 1, 0, none⟩) hl5).trans (show (w2.alloc (Obj.cells #[.pointer none] 24)).frozen? ⟨w.heap.size + 1, 0, none⟩ = false from by rw [hAF, if_neg (by omega)]; exact f42)
  have hl43 : w.heap.size + 1 < w3.heap.size := cell_lt c43
  have HB3 := Lib.hid (bthen (balloc HB2.out _) hb3)
  clear hb3 c42 f42
  go_wp2_with fail
  have hne : ¬ w.heap.size + 1 = w3.heap.size := by omega
  refine bodyPost_ret (v := .bool true) (by simp [results, Try.results3, go_sem, c43, f43, hAC, hAF, hne]) rfl ?_
  exact ⟨rfl, (HB3.out.setCell (p := ⟨w.heap.size + 1, 0, none⟩) (Nat.le_succ _) _).alloc (by simp; omega) _⟩
end Go.Proofs.Ytajhljgcbafbcaa
