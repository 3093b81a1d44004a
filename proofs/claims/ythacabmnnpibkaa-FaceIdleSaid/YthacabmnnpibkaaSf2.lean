
/- Contracts of package sfnt's put32 and put16: numbers behind a slice of the call's own. Conditions: sizes; the numbers' own block. -/
import Derived.Test.YthacabmnnpibkaaSf1
import Derived.Test.YthacabmnnpibkaaZed
namespace Go.Proofs.Ythacabmnnpibkaa
open Go.RowKit

def be4 (z : Nat) : List UInt8 := [UInt8.ofNat (z / 16777216), UInt8.ofNat (z / 65536), UInt8.ofNat (z / 256), UInt8.ofNat z]
def be2 (z : Nat) : List UInt8 := [UInt8.ofNat (z / 256), UInt8.ofNat z]
/-- A row of bytes of the call's own isn't a block of another kind. -/
theorem own_ne {w : World} {base n : Nat} {v : Value} {xs : List Value} (h : w.ownsRow base 5 1 v n xs) {g : Nat} {cs : Array Value} {t : Nat} {fz : Nat × Nat} (hg : w.heap[g]? = some (.cells cs t fz)) (ht : t ≠ 5) : some g ≠ v.ownBlock := by
  rcases h.2 with ⟨rfl, _⟩ | ⟨g', cap, cur, rfl, _, hh, _⟩
  · simp [Value.ownBlock]
  · simp only [Value.ownBlock, ne_eq, Option.some.injEq]
    rintro rfl
    rw [hg] at hh
    injection hh with hh
    injection hh with _ h2 _
    exact ht h2

theorem be4V (z : Nat) (h : z < 4294967296) : bytesV (be4 z) = [.int .u8 ((z : Int) / 16777216), .int .u8 ((z : Int) / 65536 % 256), .int .u8 ((z : Int) / 256 % 256), .int .u8 ((z : Int) % 256)] := by
  simp only [bytesV, be4, List.map_cons, List.map_nil, UInt8.toNat_ofNat', List.cons.injEq, Value.int.injEq, true_and, and_true]
  refine ⟨?_, ?_, ?_, ?_⟩ <;> omega
theorem be2V (z : Nat) (h : z < 65536) : bytesV (be2 z) = [.int .u8 ((z : Int) / 256), .int .u8 ((z : Int) % 256)] := by
  simp only [bytesV, be2, List.map_cons, List.map_nil, UInt8.toNat_ofNat', List.cons.injEq, Value.int.injEq, true_and, and_true]
  refine ⟨?_, ?_⟩ <;> omega
theorem bytesV_append (xs ys : List UInt8) : bytesV (xs ++ ys) = bytesV xs ++ bytesV ys := by simp [bytesV]
theorem take_flat (ls : List Nat) (f : Nat → List UInt8) (k z : Nat) (h : ls[k]? = some z) : (ls.take (k + 1)).flatMap f = (ls.take k).flatMap f ++ f z := by
  rw [List.take_add_one, h]
  simp
/-- All blocks that hold no bytes are as they were. -/
def Kept (w w' : World) : Prop := w.heap.size ≤ w'.heap.size ∧ ∀ (g : Nat) (cs : Array Value) (t : Nat) (fz : Nat × Nat), w.heap[g]? = some (.cells cs t fz) → t ≠ 5 → w'.heap[g]? = w.heap[g]?
theorem Kept.refl (w : World) : Kept w w := ⟨Nat.le_refl _, fun _ _ _ _ _ _ => rfl⟩
theorem Kept.trans {a b c : World} (h : Kept a b) (k : Kept b c) : Kept a c := ⟨Nat.le_trans h.1 k.1, fun g cs t fz hg ht => (k.2 g cs t fz ((h.2 g cs t fz hg ht).trans hg) ht).trans (h.2 g cs t fz hg ht)⟩
theorem Kept.below {w w' : World} (h : Below w.heap.size w w') : Kept w w' := ⟨h.size, fun g _ _ _ hg _ => h.block g (Array.getElem?_eq_some_iff.1 hg).1⟩
theorem Kept.grown {w w' : World} {base n : Nat} {v : Value} {xs : List Value} (h : w.ownsRow base 5 1 v n xs) (hg : w.grownBy w' v.ownBlock) : Kept w w' :=
  ⟨hg.size, fun g _ _ _ h1 ht => hg.block g (Array.getElem?_eq_some_iff.1 h1).1 (own_ne h h1 ht)⟩
theorem Kept.cell {w w' : World} (h : Kept w w') {g : Nat} {cs : Array Value} {t : Nat} {fz : Nat × Nat} (hg : w.heap[g]? = some (.cells cs t fz)) (ht : t ≠ 5) (o : Nat) : w'.cell? ⟨g, o, none⟩ = cs[o]? := by
  rw [World.cell?_of_block (w := w) (by exact h.2 g cs t fz hg ht)]
  simp [World.cell?, hg]
def PutRel (w : World) (base n : Nat) (xs : List UInt8) (ls : List Nat) (gl : Nat) (f : Nat → List UInt8) (sz : Nat) (v i : Value) (wr : World) : Prop :=
  ∃ k a c, k ≤ ls.length ∧ i = .int .i64 (k : Nat) ∧ v = .slice a (n + sz * k) c ∧ wr.ownsRow base 5 1 v (n + sz * k) (bytesV (xs ++ (ls.take k).flatMap f)) ∧ (a = none → c = 0) ∧ c ≤ maxLen ∧ n + sz * k ≤ c ∧ Below base w wr ∧ Kept w wr

set_option maxHeartbeats 1600000 in
theorem put32_any (base : Nat) (a : Option Addr) (n c : Nat) (xs : List UInt8) (gl cl : Nat) (ls : List Nat) (w : World) (hown : w.ownsRow base 5 1 (.slice a n c) n (bytesV xs)) (hbase : base ≤ w.heap.size)
    (hgl : w.heap[gl]? = some (.cells (ls.map fun z => Value.int .u32 (z : Nat)).toArray 70 (0, 0))) (hls : ∀ z ∈ ls, z < 4294967296) (hcl : ls.length ≤ cl) (hcm : cl ≤ 100) (hn : n ≤ 100000000) :
    Calls Try.prog 35 #[.slice a n c, .slice (some ⟨gl, 0, none⟩) ls.length cl] w fun e w' => ∃ a' c', e = .returned (.slice a' (n + 4 * ls.length) c') ∧ w'.ownsRow base 5 1 (.slice a' (n + 4 * ls.length) c') (n + 4 * ls.length) (bytesV (xs ++ ls.flatMap be4)) ∧ n + 4 * ls.length ≤ c' ∧ c' ≤ maxLen ∧ (a' = none → c' = 0) ∧ Below base w w' ∧ Kept w w' := by
  obtain ⟨_, _, he, k1, k2, k3⟩ := owns_slice hown
  cases he
  have HO := Lib.hid hown
  have HG := Lib.hid hgl
  have HS := Lib.hid hls
  have H3 := Lib.hid k3
  clear hown hgl hls k3
  go_enter Try.func35, Try.ntmps35
  go_wp2_with fail
  go_loopw [0, 9] (PutRel w base n xs ls gl be4 4) (fun _ i _ => ls.length - (intOf i).toNat)
  case atStart => exact ⟨0, a, c, Nat.zero_le _, rfl, rfl, by simpa using HO.out, H3.out, k2, k1, Below.refl _ _, Kept.refl _⟩
  case round =>
    obtain ⟨k, a1, c1, hk, rfl, rfl, hox, k31, k21, k11, hbr, hkp⟩ := hrel
    have hgr := hkp.2 gl _ _ _ HG.out (by decide)
    by_cases hlt : k < ls.length
    · obtain ⟨z, hz⟩ : ∃ z, ls[k]? = some z := ⟨_, List.getElem?_eq_getElem hlt⟩
      have hc0 : wr.cell? ⟨gl, 0 + k, none⟩ = some (.int .u32 (z : Nat)) := by
        rw [World.cell?_of_block (w := w) (by exact hgr)]
        simp only [World.cell?, HG.out]
        simp [hz]
      rw [Nat.zero_add] at hc0
      have hz1 : z < 4294967296 := HS.out z (List.mem_of_getElem? hz)
      have hne := own_ne hox (hgr.trans HG.out) (by decide)
      have HX := Lib.hid hox
      have HR := Lib.hid hbr
      have HGR := Lib.hid hgr
      have HKP := Lib.hid hkp
      have H31 := Lib.hid k31
      clear hox hbr hgr k31 hkp
      have hV := be4V z hz1
      have HT := Lib.hid (take_flat ls be4 k z hz)
      have HV := Lib.hid hV
      clear hV
      go_wp2_with (at_builtin; refine wpApp rfl _ _ 22 rfl base 5 (.int .u8 0) 1 1 Try.underlying22 u8_info rfl (by decide) _ (n + 4 * k) (bytesV (xs ++ (ls.take k).flatMap be4)) rfl (owns_below HX.out (balloc (brefl wr) _) (Nat.le_refl _)) (some ⟨wr.heap.size, 0, none⟩) 4 4 (bytesV (be4 z)) rfl rfl (by rw [HV.out]; exact has_alloc _ _ _) (fun h => by cases h) (bytesV_one _) (by unfold maxLen; omega) (by omega) (by have := HR.out.size; simp; omega) ?_; intro a2 c2 w2 hown2 k22 k23 k24 hb2 hg2; have HO2 := Lib.hid hown2; have HA2 := Lib.hid k24; have HG2 := Lib.hid hg2; clear hown2 hg2 k24)
      go_roundw
      case rel =>
        have hlt' : gl < wr.heap.size := (Array.getElem?_eq_some_iff.1 (HGR.out.trans HG.out)).1
        refine ⟨k + 1, a2, c2, by omega, by go_num, rfl, ?_, HA2.out, k23, by omega, ?_, (HKP.out.trans (Kept.below (balloc (brefl wr) _))).trans (Kept.grown (owns_below HX.out (balloc (brefl wr) _) (Nat.le_refl _)) HG2.out)⟩
        · rw [HT.out, ← List.append_assoc, bytesV_append]
          exact HO2.out
        · exact (HR.out.trans ((balloc (brefl wr) _).mono (by have := HR.out.size; omega))).trans hb2
      case measure => simp [intOf]; omega
    · obtain rfl : k = ls.length := by omega
      have HX := Lib.hid hox
      have H31 := Lib.hid k31
      have HR := Lib.hid hbr
      have HKP := Lib.hid hkp
      clear hox k31 hbr hkp hgr
      go_wp2
      go_ret
      refine ⟨a1, c1, rfl, ?_, k11, k21, H31.out, HR.out, HKP.out⟩
      have := HX.out
      rw [List.take_length] at this
      exact this
set_option maxHeartbeats 1600000 in
theorem put16_any (base : Nat) (a : Option Addr) (n c : Nat) (xs : List UInt8) (gl cl : Nat) (ls : List Nat) (w : World) (hown : w.ownsRow base 5 1 (.slice a n c) n (bytesV xs)) (hbase : base ≤ w.heap.size)
    (hgl : w.heap[gl]? = some (.cells (ls.map fun z => Value.int .i64 (z : Nat)).toArray 3 (0, 0))) (hls : ∀ z ∈ ls, z < 65536) (hcl : ls.length ≤ cl) (hcm : cl ≤ 100) (hn : n ≤ 100000000) :
    Calls Try.prog 50 #[.slice a n c, .slice (some ⟨gl, 0, none⟩) ls.length cl] w fun e w' => ∃ a' c', e = .returned (.slice a' (n + 2 * ls.length) c') ∧ w'.ownsRow base 5 1 (.slice a' (n + 2 * ls.length) c') (n + 2 * ls.length) (bytesV (xs ++ ls.flatMap be2)) ∧ n + 2 * ls.length ≤ c' ∧ c' ≤ maxLen ∧ (a' = none → c' = 0) ∧ Below base w w' ∧ Kept w w' := by
  obtain ⟨_, _, he, k1, k2, k3⟩ := owns_slice hown
  cases he
  have HO := Lib.hid hown
  have HG := Lib.hid hgl
  have HS := Lib.hid hls
  have H3 := Lib.hid k3
  clear hown hgl hls k3
  go_enter Try.func50, Try.ntmps50
  go_wp2_with fail
  go_loopw [0, 9] (PutRel w base n xs ls gl be2 2) (fun _ i _ => ls.length - (intOf i).toNat)
  case atStart => exact ⟨0, a, c, Nat.zero_le _, rfl, rfl, by simpa using HO.out, H3.out, k2, k1, Below.refl _ _, Kept.refl _⟩
  case round =>
    obtain ⟨k, a1, c1, hk, rfl, rfl, hox, k31, k21, k11, hbr, hkp⟩ := hrel
    have hgr := hkp.2 gl _ _ _ HG.out (by decide)
    by_cases hlt : k < ls.length
    · obtain ⟨z, hz⟩ : ∃ z, ls[k]? = some z := ⟨_, List.getElem?_eq_getElem hlt⟩
      have hc0 : wr.cell? ⟨gl, 0 + k, none⟩ = some (.int .i64 (z : Nat)) := by
        rw [World.cell?_of_block (w := w) (by exact hgr)]
        simp only [World.cell?, HG.out]
        simp [hz]
      rw [Nat.zero_add] at hc0
      have hz1 : z < 65536 := HS.out z (List.mem_of_getElem? hz)
      have hne := own_ne hox (hgr.trans HG.out) (by decide)
      have HX := Lib.hid hox
      have HR := Lib.hid hbr
      have HGR := Lib.hid hgr
      have HKP := Lib.hid hkp
      have H31 := Lib.hid k31
      clear hox hbr hgr k31 hkp
      have hV := be2V z hz1
      have HT := Lib.hid (take_flat ls be2 k z hz)
      have HV := Lib.hid hV
      clear hV
      go_wp2_with (at_builtin; refine wpApp rfl _ _ 22 rfl base 5 (.int .u8 0) 1 1 Try.underlying22 u8_info rfl (by decide) _ (n + 2 * k) (bytesV (xs ++ (ls.take k).flatMap be2)) rfl (owns_below HX.out (balloc (brefl wr) _) (Nat.le_refl _)) (some ⟨wr.heap.size, 0, none⟩) 2 2 (bytesV (be2 z)) rfl rfl (by rw [HV.out]; exact has_alloc _ _ _) (fun h => by cases h) (bytesV_one _) (by unfold maxLen; omega) (by omega) (by have := HR.out.size; simp; omega) ?_; intro a2 c2 w2 hown2 k22 k23 k24 hb2 hg2; have HO2 := Lib.hid hown2; have HA2 := Lib.hid k24; have HG2 := Lib.hid hg2; clear hown2 hg2 k24)
      go_roundw
      case rel =>
        have hlt' : gl < wr.heap.size := (Array.getElem?_eq_some_iff.1 (HGR.out.trans HG.out)).1
        refine ⟨k + 1, a2, c2, by omega, by go_num, rfl, ?_, HA2.out, k23, by omega, ?_, (HKP.out.trans (Kept.below (balloc (brefl wr) _))).trans (Kept.grown (owns_below HX.out (balloc (brefl wr) _) (Nat.le_refl _)) HG2.out)⟩
        · rw [HT.out, ← List.append_assoc, bytesV_append]
          exact HO2.out
        · exact (HR.out.trans ((balloc (brefl wr) _).mono (by have := HR.out.size; omega))).trans hb2
      case measure => simp [intOf]; omega
    · obtain rfl : k = ls.length := by omega
      have HX := Lib.hid hox
      have H31 := Lib.hid k31
      have HR := Lib.hid hbr
      have HKP := Lib.hid hkp
      clear hox k31 hbr hkp hgr
      go_wp2
      go_ret
      refine ⟨a1, c1, rfl, ?_, k11, k21, H31.out, HR.out, HKP.out⟩
      have := HX.out
      rw [List.take_length] at this
      exact this
end Go.Proofs.Ythacabmnnpibkaa
