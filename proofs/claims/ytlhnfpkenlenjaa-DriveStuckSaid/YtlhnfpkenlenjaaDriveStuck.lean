
/- drive's classAt, Plain, and Run of a machine that only rests, with the act of DriveStuck. Conditions: a machine and a line in memory; each entry rests. The contract of speaks of law 12: a machine is there, and a line. No condition. A flag that is laid on a number, and what a plan's bytes tell of it. Condition: a number of 64 bits; an entry that is there. The contracts of small of law 12 and of Plain; entries as cells, on which a flag is laid one by one. Conditions: as each says. The walk of DriveStuck. DriveStuck returns true for every plan and all ids, and changes nothing: a machine that only rests runs out of its budget in 65 steps. No condition beside the row's own. -/
import Derived.Test.YtlhnfpkenlenjaaJ12
import Derived.Test.YtlhnfpkenlenjaaJ15
import Derived.Test.YtlhnfpkenlenjaaJ14
import Derived.Test.YtlhnfpkenlenjaaJ16
namespace Go.Proofs.Ytlhnfpkenlenjaa
open Go.RowKit Go.Lib

theorem classM_lt (bs : List UInt8) (rs : List RP) (id : Int) (h : 4 ≤ num bs 0 4) : classM bs rs id < num bs 0 4 := by
  unfold classM
  split
  · omega
  · simp only
    split
    · rename_i h2; exact h2.2
    · omega
/-- The class of a line's first glyph, or of its end. -/
def clsD (bs : List UInt8) (rs : List RP) (l : List (Int × Int)) : Nat := match l[0]? with
  | some p => classM bs rs p.1
  | none => 0
theorem clsD_lt (bs : List UInt8) (rs : List RP) (l : List (Int × Int)) (h : 4 ≤ num bs 0 4) : clsD bs rs l < num bs 0 4 := by
  unfold clsD
  split
  · exact classM_lt _ _ _ h
  · omega
set_option maxRecDepth 100000 in
set_option maxHeartbeats 1600000 in
theorem classAt_any (B g : Nat) (bs : List UInt8) (k : Nat) (rs : List RP) (S : Nat) (Bl gl : Nat) (a : Option Addr) (c : Nat) (l : List (Int × Int)) (w : World) (h : MIs B g bs k rs S w) (hf : FitL (tabR (bs.drop (num bs 4 4)) rs).1 (tabR (bs.drop (num bs 4 4)) rs).2) (hG : GIs Bl gl a c l w) (hid : ∀ p, l[0]? = some p → -9223372036854775808 ≤ p.1 ∧ p.1 ≤ 9223372036854775807) :
    Calls Try.prog 24 #[.pointer (some ⟨g, 0, none⟩), .pointer (some ⟨gl, 0, none⟩), .int .i64 0] w fun e w' => e = .returned (.tuple #[.int .i64 (clsD bs rs l : Nat), .bool (decide (0 < l.length))]) ∧ Below w.heap.size w w' := by
  have hAC := allocC
  have hAF := allocF
  have HAt := Lib.hid (gat_any Bl gl a c l w hG 0)
  have HM := Lib.hid h
  have HF := Lib.hid hf
  cases hl : l[0]? with
  | none =>
    have hin : inG l 0 = false := by
      rcases l with _ | ⟨x, l⟩
      · rfl
      · simp at hl
    rw [show clsD bs rs l = 0 by rw [clsD, hl], show decide (0 < l.length) = false from decide_eq_false (Nat.not_lt_of_le (List.getElem?_eq_none_iff.1 hl))]
    rw [hin, show atG l 0 = (0, 0) by rw [atG, if_neg (by rw [hin]; decide)]] at HAt
    simp only [glyphA] at HAt
    clear hl hin h hG hid hf
    go_enter Try.func24, Try.ntmps24
    go_wp2_with (go_at_call 35; (with_reducible refine HAt.out.mono ?_); rintro e w1 ⟨rfl, hb1⟩)
    go_ret2
    exact ⟨rfl, blw⟩
  | some p =>
    have hin : inG l 0 = true := inG_of hl
    have hat : atG l 0 = p := atG_of hl
    have hp := hid p hl
    rw [show clsD bs rs l = classM bs rs p.1 by rw [clsD, hl], show decide (0 < l.length) = true from decide_eq_true (List.getElem?_eq_some_iff.1 hl).1]
    rw [hin, hat] at HAt
    obtain ⟨p1, p2⟩ := p
    simp only [glyphA] at HAt hp
    have HC := Lib.hid (fun W (hW : Below w.heap.size w W) => class_any B g bs k rs S p1 W (HM.out.below hW) HF.out hp)
    clear hl hin hat h hG hid hf hp
    generalize classM bs rs p1 = C at *
    go_enter Try.func24, Try.ntmps24
    go_wp2_with (first | (go_at_call 35; (with_reducible refine HAt.out.mono ?_); rintro e w1 ⟨rfl, hb1⟩; have h1c := bc hb1; have h1f := bf hb1; have h1z := hb1.size) | (go_at_call 36; (with_reducible refine (HC.out _ (by exact blw)).mono ?_); rintro e w2 ⟨rfl, hb2⟩))
    go_ret2
    exact ⟨rfl, blw⟩

theorem below_same {w : World} {g : Nat} {v : Value} {t : TypeId} {fz : Nat × Nat} (h : w.heap[g]? = some (.cells #[v] t fz)) : Below w.heap.size w (w.setCell ⟨g, 0, none⟩ v) :=
  ⟨rfl, rfl, rfl, by simp, fun k hk => by
    by_cases hkg : k = g
    · subst hkg; rw [set_heap_at _ h, h]; rfl
    · exact set_heap_other _ hkg⟩
set_option maxHeartbeats 800000 in
theorem doStuck_any (gp : Nat) (e0 e1 e2 e3 : Int) (w : World) (h : w.heap[gp]? = some (.cells #[.int .i64 0] 3 (0, 0))) :
    Calls Try.prog 12 #[.int .i64 0, .agg #[.int .i64 e0, .int .i64 e1, .int .i64 e2, .int .i64 e3], .pointer (some ⟨gp, 0, none⟩)] w fun e w' => e = .returned (.tuple #[]) ∧ Below w.heap.size w w' := by
  have hAC := allocC
  have hAF := allocF
  have hl := (Array.getElem?_eq_some_iff.1 h).1
  have c0 := cell_of_heap h 0
  have f0 := froz_of_heap h 0
  simp only [List.getElem?_toArray, List.getElem?_cons_zero] at c0
  have HB := Lib.hid (below_same h)
  clear h
  go_enter Try.func12, Try.ntmps12
  go_wp2_with fail
  go_end0
  exact ⟨rfl, HB.out.alloc (by simp) _⟩
theorem fn_nil60 (fn : Fn) (first cap : Array Value) (w : World) : (binOp .neq 51 (.func fn first cap) .nilFunc).run Try.prog w = .ok (.bool true) w := by kernel_rfl
theorem fn_nil58 (fn : Fn) (first cap : Array Value) (w : World) : (binOp .eql 49 (.func fn first cap) .nilFunc).run Try.prog w = .ok (.bool false) w := by kernel_rfl
def doV (gp : Nat) : Value := .func (.func 12) #[] #[.pointer (some ⟨gp, 0, none⟩)]
set_option maxHeartbeats 800000 in
theorem plain1_any (gx gp : Nat) (e0 e1 e2 e3 : Int) (w : World) (hx : w.heap[gx]? = some (.cells #[.func (.func 12) #[] #[.pointer (some ⟨gp, 0, none⟩)]] 51 (0, 0))) (h : w.heap[gp]? = some (.cells #[.int .i64 0] 3 (0, 0))) :
    Calls Try.prog 26 #[.int .i64 0, .agg #[.int .i64 e0, .int .i64 e1, .int .i64 e2, .int .i64 e3], .pointer (some ⟨gx, 0, none⟩)] w fun e w' => e = .returned (.tuple #[.int .i64 0, .int .i64 1]) ∧ Below w.heap.size w w' := by
  have hAC := allocC
  have hAF := allocF
  have hN := fn_nil60
  have hl := (Array.getElem?_eq_some_iff.1 h).1
  have hlx := (Array.getElem?_eq_some_iff.1 hx).1
  have c0 := cell_of_heap hx 0
  simp only [List.getElem?_toArray, List.getElem?_cons_zero] at c0
  have HD := Lib.hid (fun W (hW : Below w.heap.size w W) => doStuck_any gp e0 e1 e2 e3 W ((hW.block gp hl).trans h))
  clear h hx
  go_enter Try.func26, Try.ntmps26
  go_wp2_with (go_at_call 12; (with_reducible refine (HD.out _ (by exact blw)).mono ?_); rintro e w1 ⟨rfl, hb1⟩)
  refine bodyPost_ret (v := .tuple #[.int .i64 0, .int .i64 1]) (by simp [results, Try.results26, go_sem]) rfl ?_
  exact ⟨rfl, blw⟩
theorem entA0 (vb : List UInt8) (j : Nat) : entA vb 0 j = .agg #[.int .i64 (num vb (j * 4) 2 : Nat), .int .i64 (num vb (j * 4 + 2) 2 : Nat), .int .i64 0, .int .i64 0] := rfl
set_option maxRecDepth 100000 in
set_option maxHeartbeats 3200000 in
theorem run_stuck (B g : Nat) (bs : List UInt8) (rs : List RP) (S : Nat) (Bl gl : Nat) (a : Option Addr) (c : Nat) (l : List (Int × Int)) (gx gp : Nat) (w : World) (h : MIs B g bs 0 rs S w) (hS : S ≤ 65536) (hok : MOk bs 40 0 rs S)
    (hst : ∀ j, j < needE bs S → bits .and .i64 (num (bs.drop (num bs 12 4)) (j * 4 + 2) 2 : Nat) 16384 = 16384) (hG : GIs Bl gl a c l w) (hid : ∀ p, l[0]? = some p → -9223372036854775808 ≤ p.1 ∧ p.1 ≤ 9223372036854775807) (hn : l.length ≤ 1000)
    (hx : w.heap[gx]? = some (.cells #[.func (.func 12) #[] #[.pointer (some ⟨gp, 0, none⟩)]] 51 (0, 0))) (hp : w.heap[gp]? = some (.cells #[.int .i64 0] 3 (0, 0))) :
    Calls Try.prog 9 #[.pointer (some ⟨g, 0, none⟩), .pointer (some ⟨gl, 0, none⟩), .func (.func 26) #[] #[.pointer (some ⟨gx, 0, none⟩)]] w fun e w' => e = .returned (.tuple #[.int .i64 65, .int .i64 4]) ∧ Below w.heap.size w w' := by
  have hAC := allocC
  have hAF := allocF
  have hN := fn_nil58
  have hf := hok.lk.fit (by decide) (.inl rfl)
  have hC := clsD_lt bs rs l hok.cls.1
  have HLN := Lib.hid (fun W (hW : Below w.heap.size w W) => glen_any Bl gl a c l W (hG.below hW))
  have HCA := Lib.hid (fun W (hW : Below w.heap.size w W) => classAt_any B g bs 0 rs S Bl gl a c l W (h.below hW) hf (hG.below hW) hid)
  have HSTEP := Lib.hid (fun W (hW : Below w.heap.size w W) s (hs : s < S) => step_yes B g bs 0 rs S s (clsD bs rs l) W (h.below hW) hS hs hC)
  have HACT := Lib.hid (fun W (hW : Below w.heap.size w W) e0 e1 e2 e3 => plain1_any gx gp e0 e1 e2 e3 W ((hW.block gx (Array.getElem?_eq_some_iff.1 hx).1).trans hx) ((hW.block gp (Array.getElem?_eq_some_iff.1 hp).1).trans hp))
  have HIN := Lib.hid (fun s (hs : s < S) => ent_in hs hC)
  have HNX := Lib.hid (fun j (hj : j < needE bs S) => show num (bs.drop (num bs 12 4)) (j * 4) 2 < S by
    have h1 : nextN bs 0 j < needS bs 0 (needE bs S) := needL_lt hj
    have h2 := hok.least.closed.2
    rw [num_dropS]
    unfold nextN at h1
    simp only [Nat.mul_zero, Nat.add_zero] at h1
    have h3 := Nat.lt_of_lt_of_le h1 h2
    exact h3)
  have HST := Lib.hid hst
  have hS1 : 2 ≤ S := hok.least.closed.1
  clear h hok hst hG hid hx hp hf hC
  generalize decide (0 < l.length) = wi at *
  generalize clsD bs rs l = K at *
  generalize l.length = n at *
  go_enter Try.func9, Try.ntmps9
  go_wp2_with (go_at_call 13; (with_reducible refine (HLN.out _ (by exact blw)).mono ?_); rintro e w_ ⟨rfl, rfl⟩)
  go_loopw [9, 10, 11, 12] (fun now at' rests steps wr => ∃ (s j : Nat), s < S ∧ j ≤ 64 ∧ now = .int .i64 (s : Nat) ∧ at' = .int .i64 0 ∧ rests = .int .i64 (j : Nat) ∧ steps = .int .i64 ((j + 1 : Nat) : Int) ∧ Below w.heap.size w wr) (fun _ _ rests _ _ => 65 - (Go.RowKit.intOf rests).toNat)
  case atStart => exact ⟨0, 0, by omega, by omega, rfl, rfl, rfl, rfl, blw⟩
  case round =>
    obtain ⟨s, j, hs, hj, rfl, rfl, rfl, rfl, hb⟩ := hrel
    have HB := Lib.hid hb
    have hzr := hb.size
    clear hb
    have hin := HIN.out s hs
    have hSTEP := HSTEP.out wr HB.out s hs
    obtain ⟨E, hE⟩ : ∃ E, E = entN bs (s * num bs 0 4 + K) := ⟨_, rfl⟩
    have HSP := Lib.hid (fun W (hW : Below w.heap.size w W) => HSTEP.out W hW s hs)
    rw [← hE] at hin HSP
    simp only [entA0] at HSP
    have hnx := HNX.out E hin
    have hst := HST.out E hin
    obtain ⟨X, hX⟩ : ∃ X, X = num (bs.drop (num bs 12 4)) (E * 4) 2 := ⟨_, rfl⟩
    obtain ⟨F, hF⟩ : ∃ F, F = num (bs.drop (num bs 12 4)) (E * 4 + 2) 2 := ⟨_, rfl⟩
    rw [← hX] at HSP hnx
    rw [← hF] at HSP hst
    clear hE hX hF hSTEP hin
    by_cases hlast : j = 64
    · subst hlast
      go_wp2_with (first
        | (go_at_call 24; (with_reducible refine (HCA.out _ HB.out).mono ?_); rintro e w1 ⟨rfl, hb1⟩; have HB1 := Lib.hid (HB.out.trans (hb1.mono hzr)); clear hb1)
        | (go_at_call 25; (with_reducible refine (HSP.out _ HB1.out).mono ?_); rintro e w2 ⟨rfl, hb2⟩; have HB2 := Lib.hid (HB1.out.trans (hb2.mono HB1.out.size)); have hz2 := HB2.out.size; clear hb2)
        | (go_at_call 26; (with_reducible refine (HACT.out _ (HB2.out.alloc hz2 _) _ _ _ _).mono ?_); rintro e w3 ⟨rfl, hb3⟩; have h3c := bc hb3; have h3z := hb3.size; have HB3 := Lib.hid ((HB2.out.alloc hz2 _).trans (hb3.mono (by simp; omega))); clear hb3; simp only [World.size_alloc] at h3c h3z))
      refine bodyPost_ret (v := .tuple #[.int .i64 65, .int .i64 4]) (by simp [results, Try.results9, go_sem]) rfl ?_
      exact ⟨rfl, HB3.out⟩
    · have hj1 : ¬ 64 < j + 1 := by omega
      go_wp2_with (first
        | (go_at_call 24; (with_reducible refine (HCA.out _ HB.out).mono ?_); rintro e w1 ⟨rfl, hb1⟩; have HB1 := Lib.hid (HB.out.trans (hb1.mono hzr)); clear hb1)
        | (go_at_call 25; (with_reducible refine (HSP.out _ HB1.out).mono ?_); rintro e w2 ⟨rfl, hb2⟩; have HB2 := Lib.hid (HB1.out.trans (hb2.mono HB1.out.size)); have hz2 := HB2.out.size; clear hb2)
        | (go_at_call 26; (with_reducible refine (HACT.out _ (HB2.out.alloc hz2 _) _ _ _ _).mono ?_); rintro e w3 ⟨rfl, hb3⟩; have h3c := bc hb3; have h3z := hb3.size; have HB3 := Lib.hid ((HB2.out.alloc hz2 _).trans (hb3.mono (by simp; omega))); clear hb3; simp only [World.size_alloc] at h3c h3z))
      refine ⟨⟨X, j + 1, hnx, by omega, rfl, rfl, rfl, rfl, HB3.out⟩, ?_⟩
      simp only [Go.RowKit.intOf]
      omega

def planT : PlanL := ⟨[], [[0], [0]], [(1, 0, 0, 0)], 0⟩
def bytesT : List UInt8 := [0, 0, 0, 4, 0, 0, 0, 16, 0, 0, 0, 22, 0, 0, 0, 38, 0, 8, 0, 0, 0, 0, 0, 0, 0, 0, 0, 0, 0, 0, 0, 0, 0, 0, 0, 0, 0, 0, 0, 1, 0, 0]
theorem planT_bytes : planB planT 0 0 = bytesT := by decide
def rsT : List RP := rowsT 0 0 6 2
theorem okT : MOk bytesT 9 0 rsT 2 := by
  refine ⟨by decide, by decide, by decide, ?_, by decide, by decide, ⟨by unfold MClosed; decide, fun S' h => h.1⟩, by decide, by decide⟩
  refine ⟨.eight (by decide) (by decide) (by decide), ?_⟩
  exact (ok_rowsT _ _ _ _ _ (by decide)).2 (by decide)
theorem has_nil (w : World) : Has w none [] := fun j u h => by simp at h
theorem writeT (aR aE : Option Addr) (rv : List Value) (cC cR cE : Nat) (w : World) (h : PlanHas w planT none aR rv aE) :
    Calls Try.prog 6 #[.agg #[.slice none 0 cC, .slice aR 2 cR, .slice aE 1 cE, .int .u8 0], .int .i64 0, .int .i64 0] w fun e w' => ∃ a' c', e = .returned (.slice a' 42 c') ∧ Has w' a' (bytesV bytesT) ∧ 42 ≤ c' ∧ c' ≤ maxLen ∧ Below w.heap.size w w' := by
  have := write_any planT 0 0 0 0 rfl rfl none aR aE rv cC cR cE w h (by decide) (by decide) (by decide) (by decide) (by decide) (by
    intro e he
    simp only [planT, List.mem_cons, List.not_mem_nil, or_false] at he
    subst he
    unfold wfI
    decide)
  rw [planT_bytes] at this
  refine this.mono ?_
  rintro e w' ⟨a', c', h1, h2, h3, h4, _, h6⟩
  exact ⟨a', c', h1, has_of_owns h2, h3, h4, h6⟩
set_option maxRecDepth 100000 in
set_option maxHeartbeats 3200000 in
theorem speaks12_any (w : World) : Calls Try.prog 4 #[] w fun e w' => e = .returned (.bool true) ∧ Below w.heap.size w w' := by
  have hAC := allocC
  have hAF := allocF
  go_enter Try.func4, Try.ntmps4
  go_wp2_with fail
  obtain ⟨w2, h2⟩ : ∃ w2, w2 = w.alloc (Obj.cells #[.int .u8 0] 5) := ⟨_, rfl⟩
  obtain ⟨w3, h3⟩ : ∃ w3, w3 = w2.alloc (Obj.cells #[.int .u8 0] 5) := ⟨_, rfl⟩
  obtain ⟨w4, h4⟩ : ∃ w4, w4 = w3.alloc (Obj.cells #[.slice (some ⟨w.heap.size, 0, none⟩) 1 1, .slice (some ⟨w2.heap.size, 0, none⟩) 1 1] 22) := ⟨_, rfl⟩
  obtain ⟨w5, h5⟩ : ∃ w5, w5 = w4.alloc (Obj.cells #[.int .i64 1, .int .i64 0, .int .i64 0, .int .i64 0] 31) := ⟨_, rfl⟩
  have z2 : w2.heap.size = w.heap.size + 1 := by rw [h2]; simp
  have z3 : w3.heap.size = w2.heap.size + 1 := by rw [h3]; simp
  have z4 : w4.heap.size = w3.heap.size + 1 := by rw [h4]; simp
  have b2 : Below w.heap.size w w2 := by rw [h2]; exact balloc (brefl w) _
  have b3 : Below w2.heap.size w2 w3 := by rw [h3]; exact balloc (brefl w2) _
  have b4 : Below w3.heap.size w3 w4 := by rw [h4]; exact balloc (brefl w3) _
  have b5 : Below w4.heap.size w4 w5 := by rw [h5]; exact balloc (brefl w4) _
  have b35 : Below w3.heap.size w3 w5 := b4.trans (b5.mono b4.size)
  have b25 : Below w2.heap.size w2 w5 := b3.trans (b35.mono b3.size)
  have HP := Lib.hid (show PlanHas w5 planT none (some ⟨w3.heap.size, 0, none⟩) [.slice (some ⟨w.heap.size, 0, none⟩) 1 1, .slice (some ⟨w2.heap.size, 0, none⟩) 1 1] (some ⟨w4.heap.size, 0, none⟩) from ⟨has_nil w5, by
      have := has_alloc w3 #[.slice (some ⟨w.heap.size, 0, none⟩) 1 1, .slice (some ⟨w2.heap.size, 0, none⟩) 1 1] 22
      rw [← h4] at this
      exact this.below b5, rfl, by
      have g2 := has_alloc w #[.int .u8 0] 5
      have g3 := has_alloc w2 #[.int .u8 0] 5
      rw [← h2] at g2
      rw [← h3] at g3
      intro i r hr
      match i, hr with
      | 0, hr => simp [planT] at hr; subst hr; exact ⟨_, 1, rfl, g2.below b25⟩
      | 1, hr => simp [planT] at hr; subst hr; exact ⟨_, 1, rfl, g3.below b35⟩
      | n + 2, hr => simp [planT] at hr, by
      have := has_alloc w4 #[.int .i64 1, .int .i64 0, .int .i64 0, .int .i64 0] 31
      rw [← h5] at this
      exact this⟩)
  have HB5 := Lib.hid (show Below w.heap.size w w5 from b2.trans (b25.mono b2.size))
  rw [← h2, ← h3, ← z2, ← z3, ← h4, ← z4, ← h5]
  clear h2 h3 h4 h5 b2 b3 b4 b5 b25 b35 z2 z3
  refine (writeT _ _ _ 0 2 1 w5 HP.out).mono ?_
  rintro e w6 ⟨a', c', rfl, HHb, k1, k2, hb6⟩
  have HW6 := Lib.hid (HB5.out.trans (hb6.mono HB5.out.size))
  have HRD := Lib.hid (fun W (hW : Below w6.heap.size w6 W) => mread_some a' 42 c' bytesT 9 0 9 0 rfl rfl rsT 2 W (HHb.below hW) rfl k1 k2 (by decide) (by decide) (by decide) okT)
  have HN := Lib.hid (fun W => gnew_any (some ⟨W.heap.size, 0, none⟩) 2 2 [1, 2] (W.alloc (.cells #[.int .i64 1, .int .i64 2] 3)) (has_alloc W _ _) rfl (by decide))
  rw [show newG [1, 2] = [(1, 0), (2, 1)] from rfl] at HN
  clear HHb hb6
  go_wp2_with (first
    | (go_at_call 7; refine (HRD.out _ (brefl _)).mono ?_; rintro e w7 ⟨g, rfl, hM, hb7⟩; have HB7 := Lib.hid (HW6.out.trans (hb7.mono HW6.out.size)); have hz7 := HB7.out.size; clear hM hb7)
    | (go_at_call 10; (with_reducible refine (HN.out w7).mono ?_); rintro e w8 ⟨g8, a8, c8, rfl, hG, hg, hb8⟩; have HG8 := Lib.hid hG; have HB8 := Lib.hid ((HB7.out.alloc hz7 (.cells #[.int .i64 1, .int .i64 2] 3)).trans (hb8.mono (by simp; omega))); clear hG hb8)
    | (go_at_call 13; (with_reducible refine (glen_any _ _ _ _ _ _ HG8.out).mono ?_); rintro e w_ ⟨rfl, rfl⟩))
  go_ret
  exact ⟨rfl, HB8.out⟩

def orS (x : Int) : Int := bits .or .i64 x 16384
theorem orS_nat (x : Int) : ∃ v : Nat, v < 18446744073709551616 ∧ v / 16384 % 2 = 1 ∧ orS x = IntKind.wrap .i64 (v : Int) := by
  refine ⟨(BitVec.ofInt 64 x).toNat ||| 16384, ?_, ?_, ?_⟩
  · exact Nat.or_lt_two_pow (n := 64) (BitVec.isLt _) (by decide)
  · have h : ((BitVec.ofInt 64 x).toNat ||| 16384).testBit 14 = true := by
      rw [Nat.testBit_or, show (16384 : Nat).testBit 14 = true by decide, Bool.or_true]
    rw [Nat.testBit_eq_decide_div_mod_eq, decide_eq_true_eq] at h
    exact h
  · unfold orS
    simp only [bits, BitVec.toNat_or]
    rfl
theorem orS_wf (x : Int) : -9223372036854775808 ≤ orS x ∧ orS x ≤ 9223372036854775807 := by
  obtain ⟨v, hv, _, h⟩ := orS_nat x
  rw [h, IntKind.wrap_i64]
  omega
theorem orS_bit (x : Int) : ((orS x % 65536).toNat) / 16384 % 2 = 1 := by
  obtain ⟨v, hv, hb, h⟩ := orS_nat x
  rw [h, IntKind.wrap_i64]
  omega
theorem and_stay (v : Nat) (hv : v ≤ 65535) (h : v / 16384 % 2 = 1) : bits .and .i64 (v : Int) 16384 = 16384 := by
  have e : (BitVec.ofInt 64 (v : Int)).toNat = v := by rw [BitVec.toNat_ofInt]; omega
  have e2 : (BitVec.ofInt 64 16384).toNat = 2 ^ 14 := by decide
  have hb : v.testBit 14 = true := by rw [Nat.testBit_eq_decide_div_mod_eq, decide_eq_true_eq]; exact h
  have e3 : v &&& 2 ^ 14 = 16384 := by
    apply Nat.eq_of_testBit_eq
    intro i
    rw [Nat.testBit_and, show (16384 : Nat) = 2 ^ 14 from rfl, Nat.testBit_two_pow]
    by_cases hi : 14 = i
    · subst hi; rw [hb]; simp
    · simp [hi]
  simp only [bits, BitVec.toNat_and]
  show IntKind.wrap .i64 (((BitVec.ofInt 64 (v : Int)).toNat &&& (BitVec.ofInt 64 16384).toNat : Nat) : Int) = 16384
  rw [e, e2, e3, IntKind.wrap_i64]
  omega
/-- A plan whose entries all rest. -/
def stayE (e : Int × Int × Int × Int) : Int × Int × Int × Int := (e.1, orS e.2.1, e.2.2.1, e.2.2.2)
def PlanL.stay (p : PlanL) : PlanL := ⟨p.cls, p.rows, p.ents.map stayE, p.wide⟩
theorem stay_flags (p : PlanL) (h : 22 + 2 * p.cls.length + 2 * (p.rows.length * p.n) ≤ 65535) (j : Nat) (hj : j < p.ents.length) : bits .and .i64 (num ((planB p.stay 0 0).drop (num (planB p.stay 0 0) 12 4)) (j * 4 + 2) 2 : Nat) 16384 = 16384 := by
  obtain ⟨e, he⟩ : ∃ e, p.ents[j]? = some e := ⟨_, List.getElem?_eq_getElem hj⟩
  rw [plan_flags p.stay h j (stayE e) (by rw [PlanL.stay, List.getElem?_map, he]; rfl)]
  exact and_stay _ (m16_lt _) (orS_bit _)

set_option maxRecDepth 100000 in
theorem small12_yes (aC aR aE aI : Option Addr) (nC nR nE nI cC cR cE cI : Nat) (y : Int) (w : World) (h : nC ≤ 40 ∧ nR ≤ 20 ∧ nE ≤ 40 ∧ nI ≤ 60) :
    Calls Try.prog 5 #[.agg #[.slice aC nC cC, .slice aR nR cR, .slice aE nE cE, .int .u8 y], .slice aI nI cI] w fun e w' => e = .returned (.bool true) ∧ Below w.heap.size w w' := by
  have d1 : decide ((nC : Int) ≤ 40) = true := by simp; omega
  have d2 : decide ((nR : Int) ≤ 20) = true := by simp; omega
  have d3 : decide ((nE : Int) ≤ 40) = true := by simp; omega
  have d4 : decide ((nI : Int) ≤ 60) = true := by simp; omega
  clear h
  go_enter Try.func5, Try.ntmps5
  go_wp2_with fail
  go_ret
  exact ⟨rfl, blw⟩
set_option maxRecDepth 100000 in
theorem small12_no (aC aR aE aI : Option Addr) (nC nR nE nI cC cR cE cI : Nat) (y : Int) (w : World) (h : ¬ (nC ≤ 40 ∧ nR ≤ 20 ∧ nE ≤ 40 ∧ nI ≤ 60)) :
    Calls Try.prog 5 #[.agg #[.slice aC nC cC, .slice aR nR cR, .slice aE nE cE, .int .u8 y], .slice aI nI cI] w fun e w' => e = .returned (.bool false) ∧ Below w.heap.size w w' := by
  by_cases h1 : nC ≤ 40
  case neg =>
    have d1 : decide ((nC : Int) ≤ 40) = false := by simp; omega
    clear h h1
    go_enter Try.func5, Try.ntmps5
    go_wp2_with fail
    go_ret
    exact ⟨rfl, blw⟩
  have d1 : decide ((nC : Int) ≤ 40) = true := by simp; omega
  by_cases h2 : nR ≤ 20
  case neg =>
    have d2 : decide ((nR : Int) ≤ 20) = false := by simp; omega
    clear h h1 h2
    go_enter Try.func5, Try.ntmps5
    go_wp2_with fail
    go_ret
    exact ⟨rfl, blw⟩
  have d2 : decide ((nR : Int) ≤ 20) = true := by simp; omega
  by_cases h3 : nE ≤ 40
  case neg =>
    have d3 : decide ((nE : Int) ≤ 40) = false := by simp; omega
    clear h h1 h2 h3
    go_enter Try.func5, Try.ntmps5
    go_wp2_with fail
    go_ret
    exact ⟨rfl, blw⟩
  have d3 : decide ((nE : Int) ≤ 40) = true := by simp; omega
  have d4 : decide ((nI : Int) ≤ 60) = false := by simp; omega
  clear h h1 h2 h3
  go_enter Try.func5, Try.ntmps5
  go_wp2_with fail
  go_ret
  exact ⟨rfl, blw⟩
theorem plain_any (fn : Fn) (first cap : Array Value) (w : World) :
    Calls Try.prog 11 #[.func fn first cap] w fun e w' => e = .returned (.func (.func 26) #[] #[.pointer (some ⟨w.heap.size, 0, none⟩)]) ∧ w' = w.alloc (.cells #[.func fn first cap] 51) := by
  go_enter Try.func11, Try.ntmps11
  go_wp2_with fail
  go_ret
  exact ⟨rfl, rfl⟩

/-- The first j entries rest. -/
def stL (l : List (Int × Int × Int × Int)) (j : Nat) : List (Int × Int × Int × Int) := (l.take j).map stayE ++ l.drop j
theorem stL_zero (l : List (Int × Int × Int × Int)) : stL l 0 = l := by simp [stL]
theorem stL_all (l : List (Int × Int × Int × Int)) : stL l l.length = l.map stayE := by simp [stL]
theorem stL_get (l : List (Int × Int × Int × Int)) (j : Nat) : (stL l j)[j]? = l[j]? := by
  by_cases h : j ≤ l.length
  · rw [stL, List.getElem?_append_right (by simp [List.length_take]; omega)]
    simp [List.length_take, Nat.min_eq_left h]
  · rw [List.getElem?_eq_none (by simp [stL, List.length_take, List.length_drop]; omega), List.getElem?_eq_none (by omega)]
theorem stL_set (l : List (Int × Int × Int × Int)) (j : Nat) (e : Int × Int × Int × Int) (h : l[j]? = some e) : (stL l j).set j (e.1, orS e.2.1, e.2.2.1, e.2.2.2) = stL l (j + 1) := by
  have hlt := (List.getElem?_eq_some_iff.1 h).1
  have hge := (List.getElem?_eq_some_iff.1 h).2
  rw [stL, stL, List.take_add_one, h, List.set_append, if_neg (by simp [List.length_take]; omega)]
  rw [List.drop_eq_getElem_cons hlt, hge]
  simp [List.length_take, Nat.min_eq_left (Nat.le_of_lt hlt), stayE]
theorem stay_wf (l : List (Int × Int × Int × Int)) (h : ∀ e ∈ l, wfI e.1 ∧ wfI e.2.1 ∧ wfI e.2.2.1 ∧ wfI e.2.2.2) : ∀ e ∈ l.map stayE, wfI e.1 ∧ wfI e.2.1 ∧ wfI e.2.2.1 ∧ wfI e.2.2.2 := by
  intro e he
  obtain ⟨x, hx, rfl⟩ := List.mem_map.1 he
  obtain ⟨h1, _, h3, h4⟩ := h x hx
  exact ⟨h1, by have := orS_wf x.2.1; unfold wfI stayE; exact this, h3, h4⟩

set_option maxRecDepth 100000 in
set_option maxHeartbeats 3200000 in
theorem driveStuck_walk (p : PlanL) (aC aR aE : Option Addr) (rv : List Value) (cC cR cE : Nat) (aI : Option Addr) (nI cI : Nat) (ids : List Int) (w : World) (h : PlanHas w p aC aR rv aE) (hwf : ∀ e ∈ p.ents, wfI e.1 ∧ wfI e.2.1 ∧ wfI e.2.2.1 ∧ wfI e.2.2.2) (hE0 : aE = none → cE = 0)
    (hI : Has w aI (iv ids)) (hIl : ids.length = nI) (hIw : ∀ z ∈ ids, -9223372036854775808 ≤ z ∧ z ≤ 9223372036854775807) :
    Calls Try.prog 3 #[.agg #[.slice aC p.cls.length cC, .slice aR p.rows.length cR, .slice aE p.ents.length cE, .int .u8 (p.wide.toNat : Nat)], .slice aI nI cI] w fun e w' => e = .returned (.bool true) ∧ Below w.heap.size w w' := by
  have hAC := allocC
  have hAF := allocF
  have HSP := Lib.hid (fun W => speaks12_any W)
  have HLIT := Lib.hid (fun (W : World) (o : Obj) => show ((W.alloc o).alloc (.cells #[] 31)).ownsRow (W.heap.size + 1) 31 4 (.slice (some ⟨W.heap.size + 1, 0, none⟩) 0 0) 0 [] from by
    have hz : (W.alloc o).heap.size = W.heap.size + 1 := by simp
    rw [← hz]
    exact World.ownsRow_lit (W.alloc o) #[] 0 (Nat.le_refl _) (by decide) rfl)
  by_cases hs : p.cls.length ≤ 40 ∧ p.rows.length ≤ 20 ∧ p.ents.length ≤ 40 ∧ nI ≤ 60
  case neg =>
    have HSM := Lib.hid (fun W => small12_no aC aR aE aI p.cls.length p.rows.length p.ents.length nI cC cR cE cI (p.wide.toNat : Nat) W hs)
    clear h hwf hI hs
    generalize p.cls.length = nC at *
    generalize p.rows.length = nR at *
    generalize p.ents.length = nE at *
    generalize p.wide.toNat = wy at *
    go_enter Try.func3, Try.ntmps3
    go_wp2_with (first | (go_at_call 4; (with_reducible refine (HSP.out _).mono ?_); rintro e w1 ⟨rfl, hb1⟩; have h1c := bc hb1; have h1f := bf hb1; have h1z := hb1.size; try simp only [World.size_alloc, World.size_drew] at h1z) | (go_at_call 5; (with_reducible refine (HSM.out _).mono ?_); rintro e w2 ⟨rfl, hb2⟩; have h2c := bc hb2; have h2f := bf hb2; have h2z := hb2.size; try simp only [World.size_alloc, World.size_drew] at h2z))
    go_ret
    exact ⟨rfl, blw⟩
  have HSM := Lib.hid (fun W => small12_yes aC aR aE aI p.cls.length p.rows.length p.ents.length nI cC cR cE cI (p.wide.toNat : Nat) W hs)
  obtain ⟨hs1, hs2, hs3, hs4⟩ := hs
  have hpn : 4 ≤ p.stay.n ∧ p.stay.n ≤ 11 := by unfold PlanL.n; omega
  have hlen : (planB p.stay 0 0).length = 22 + 2 * p.cls.length + 2 * (p.rows.length * p.stay.n) + p.ents.length * 4 := by
    have := planB_length p.stay 0 0 (by omega)
    simp only [PlanL.stay, List.length_map] at this ⊢
    omega
  have hmul : p.rows.length * p.stay.n ≤ 20 * 11 := Nat.mul_le_mul hs2 hpn.2
  have hSF := Lib.hid (stay_flags p (by have := hmul; simp only [PlanL.stay, PlanL.n] at this ⊢; omega))
  obtain ⟨nB, hnB⟩ : ∃ nB, nB = (planB p.stay 0 0).length := ⟨_, rfl⟩
  have hn2 : nB ≤ 2000 := by omega
  have HWR := Lib.hid (fun W (hW : Below w.heap.size w W) (a : Option Addr) (c : Nat) (hE : Has W a ((p.ents.map stayE).flatMap entC4)) => by
    have hP := h.below hW
    have h5 : p.stay.ents.length ≤ 1000 := by simp only [PlanL.stay, List.length_map]; omega
    have := write_any p.stay 0 0 0 0 rfl rfl aC aR a rv cC cR c W ⟨hP.cls, hP.rows, hP.rlen, hP.row, hE⟩ (by show p.cls.length ≤ 1000; omega) (by show p.rows.length ≤ 1000; omega) h5 (by omega) (by omega) (stay_wf p.ents hwf)
    rw [show p.stay.ents.length = p.ents.length from by simp only [PlanL.stay, List.length_map], ← hnB] at this
    exact (show Calls Try.prog 6 #[.agg #[.slice aC p.cls.length cC, .slice aR p.rows.length cR, .slice a p.ents.length c, .int .u8 (p.wide.toNat : Nat)], .int .i64 0, .int .i64 0] W fun e w' => ∃ a' c', e = .returned (.slice a' nB c') ∧ w'.ownsRow W.heap.size 5 1 (.slice a' nB c') nB (bytesV (planB p.stay 0 0)) ∧ nB ≤ c' ∧ c' ≤ maxLen ∧ (a' = none → c' = 0) ∧ Below W.heap.size W w' from this))
  obtain ⟨bs, hbs⟩ : ∃ bs, bs = planB p.stay 0 0 := ⟨_, rfl⟩
  rw [← hbs] at HWR hSF hnB
  have HL := Lib.hid hnB.symm
  have HEN := Lib.hid h.ents
  have HI := Lib.hid hI
  have HE0 := Lib.hid hE0
  have HEL := Lib.hid (entC4_len p.ents)
  have HE1 := Lib.hid (entC4_one p.ents)
  have HST := Lib.hid (show stL p.ents 0 = p.ents from stL_zero _)
  have HSE := Lib.hid (stL_all p.ents)
  have HIW := Lib.hid hIw
  have HIL := Lib.hid hIl
  obtain ⟨es, hes⟩ : ∃ es, es = p.ents := ⟨_, rfl⟩
  rw [← hes] at HWR HSM HEN HEL HE1 HSE HST hSF hs3 ⊢
  obtain ⟨nE, hnE⟩ : ∃ nE, nE = es.length := ⟨_, rfl⟩
  rw [← hnE] at HWR HSM HEL HSE hSF hs3 ⊢
  have HNE := Lib.hid hnE
  clear h hwf hI hE0 hIw hIl hlen hmul hnB hbs hes hpn hnE
  generalize p.cls.length = nC at *
  generalize p.rows.length = nR at *
  generalize p.wide.toNat = wy at *
  go_enter Try.func3, Try.ntmps3
  go_wp2_with (first
    | (go_at_call 4; (with_reducible refine (HSP.out _).mono ?_); rintro e w1 ⟨rfl, hb1⟩; have h1c := bc hb1; have h1f := bf hb1; have h1z := hb1.size; try simp only [World.size_alloc, World.size_drew] at h1z)
    | (go_at_call 5; (with_reducible refine (HSM.out _).mono ?_); rintro e w2 ⟨rfl, hb2⟩; have h2c := bc hb2; have h2f := bf hb2; have h2z := hb2.size; try simp only [World.size_alloc, World.size_drew] at h2z)
    | (at_builtin; refine wpApp rfl _ _ 24 rfl (w2.heap.size + 1) 31 (.agg #[.int .i64 0, .int .i64 0, .int .i64 0, .int .i64 0]) 4 32 Try.underlying24 info_entry rfl (by decide) _ 0 [] rfl (HLIT.out w2 _) aE nE cE (es.flatMap entC4) rfl HEL.out (HEN.out.below (by exact blw)) HE0.out HE1.out (by unfold maxLen; omega) (by omega) (by simp) ?_; intro a5 c5 w5 hown5 k51 k52 k53 hb5 hg5; rw [Nat.zero_add] at *; rw [List.nil_append] at hown5; have HO5 := Lib.hid hown5; have z5 : w5.heap[w2.heap.size]? = some (.cells #[.slice aC nC cC, .slice aR nR cR, .slice aE nE cE, .int .u8 (wy : Nat)] 26 (0, 0)) := (hb5.block w2.heap.size (by omega)).trans (by rw [heap_push, if_neg (by simp), heap_push, if_pos rfl]); have q5 := fun o => cell_of_heap z5 o; have f5 := fun o => froz_of_heap z5 o; have l5 := (Array.getElem?_eq_some_iff.1 z5).1; have Z5 := Lib.hid z5; have HB5 := Lib.hid hb5; clear hown5 hg5 k53 hb5 z5))
  obtain ⟨X, hX⟩ : ∃ X, X = w5.setCell ⟨w2.heap.size, 2, none⟩ (.slice a5 nE c5) := ⟨_, rfl⟩
  have zX : X.heap[w2.heap.size]? = some (.cells #[.slice aC nC cC, .slice aR nR cR, .slice a5 nE c5, .int .u8 (wy : Nat)] 26 (0, 0)) := by rw [hX]; exact set_heap_at _ Z5.out
  have hB2 : Below w.heap.size w w2 := by exact blw
  have HB2 := Lib.hid hB2
  have HBX := Lib.hid (show Below w.heap.size w X from by
    rw [hX]
    exact (((hB2.alloc hB2.size _).alloc (by have := hB2.size; simp; omega) _).trans (HB5.out.mono (by have := hB2.size; omega))).setCell (p := ⟨w2.heap.size, 2, none⟩) hB2.size _)
  have HOX := Lib.hid (show X.ownsRow (w2.heap.size + 1) 31 4 (.slice a5 nE c5) nE (es.flatMap entC4) from by rw [hX]; exact set_owns (o := 2) _ HO5.out (own_neE HO5.out Z5.out (by decide)))
  have ZX := Lib.hid zX
  have hw2 := hB2.size
  have hgX : w2.heap.size < X.heap.size := (Array.getElem?_eq_some_iff.1 zX).1
  rw [← hX]
  clear hX hB2 zX q5 f5 l5 HO5 HB5 Z5 hb1 hb2 h1c h1f h1z h2c h2f h2z HSP HSM
  generalize w2.heap.size = g5 at *
  go_loopw [30] (fun i wr => ∃ j : Nat, j ≤ nE ∧ i = .int .i64 (j : Nat) ∧ wr.ownsRow (g5 + 1) 31 4 (.slice a5 nE c5) nE ((stL es j).flatMap entC4) ∧ Below (g5 + 1) X wr) (fun i _ => nE - (Go.RowKit.intOf i).toNat)
  case atStart => exact ⟨0, Nat.zero_le _, rfl, by rw [HST.out]; exact HOX.out, Below.refl _ _⟩
  case round =>
    obtain ⟨j, hj, rfl, hx, hb⟩ := hrel
    have HX := Lib.hid hx
    have HB := Lib.hid hb
    have zr := (hb.block g5 (by omega)).trans ZX.out
    have ZR := Lib.hid zr
    have qr := fun o => cell_of_heap zr o
    have fr := fun o => froz_of_heap zr o
    have lr := (Array.getElem?_eq_some_iff.1 zr).1
    clear hx hb zr
    by_cases hlt : j < nE
    · obtain ⟨e, he⟩ : ∃ e, es[j]? = some e := ⟨_, List.getElem?_eq_getElem (by rw [← HNE.out]; exact hlt)⟩
      obtain ⟨gE, csE, uE, haE, hgE, hhE, hcE, _, hfE, hsE⟩ := row_at HX.out (j * 4 + 1) (by omega)
      subst haE
      have hu := (HX.out.cellAt (j * 4 + 1) (by omega)).trans (entC4_flag _ j e ((stL_get es j).trans he))
      have hs' := hsE (.int .i64 (orS e.2.1))
      rw [entC4_set _ j _ e ((stL_get es j).trans he), stL_set es j e he] at hs'
      have HS := Lib.hid hs'
      have HBS := Lib.hid (HB.out.setCell (p := ⟨gE, j * 4 + 1, none⟩) hgE (.int .i64 (orS e.2.1)))
      have hOR : bits .or .i64 e.2.1 16384 = orS e.2.1 := rfl
      have lE := cell_lt hu
      simp only at lE
      clear hsE hs' he hhE hcE
      generalize e.2.1 = z at *
      generalize orS z = z' at *
      go_wp2_with fail
      go_roundw
      case rel => exact ⟨j + 1, hlt, by go_num, HS.out, HBS.out⟩
      case measure => simp [Go.RowKit.intOf]; omega
    · obtain rfl : nE = j := by omega
      go_wp2_with fail
      have hxx := HX.out
      rw [HSE.out] at hxx
      have HBW := Lib.hid (HBX.out.trans (HB.out.mono (by have := HBX.out.size; omega)))
      refine (HWR.out wr HBW.out a5 c5 (has_of_owns hxx)).mono ?_
      rintro e w6 ⟨a6, c6, rfl, hown6, k61, k62, k63, hb6⟩
      have HH6 := Lib.hid (has_of_owns hown6)
      have HB6 := Lib.hid (HBW.out.trans (hb6.mono HBW.out.size))
      have z6 := (hb6.block g5 lr).trans ZR.out
      have Z6 := Lib.hid z6
      have hw6 := HB6.out.size
      have l6 := (Array.getElem?_eq_some_iff.1 z6).1
      clear hxx hown6 hb6 z6 qr fr lr ZR HX HB HBW HWR HBX HOX ZX hgX HST HSE HEL HE1 HE0 HEN HNE HLIT k63 hw2 HB2
      by_cases hok : ∃ rs S, MOk bs 40 0 rs S
      case neg =>
        have HRD := Lib.hid (fun W (hW : Below w6.heap.size w6 W) => mread_none a6 nB c6 bs 40 0 40 0 rfl rfl W (HH6.out.below hW) HL.out k61 k62 (by decide) (by decide) (by decide) (fun rs S hr => hok ⟨rs, S, hr⟩))
        have HRF := Lib.hid (fun W (hW : Below w6.heap.size w6 W) => (refM_any a6 nB c6 bs 40 0 40 0 rfl rfl W (HH6.out.below hW) HL.out k61 k62 hn2 (by decide) (by decide) (by decide)).mono (R' := fun e w' => e = .returned (.tuple #[.agg #[.slice none 0 0, .int .i64 0, .int .i64 0, .int .i64 0, .int .i64 0, .int .i64 0, .int .i64 0, .slice none 0 0, .slice none 0 0], .bool false]) ∧ Below W.heap.size W w') (by
          rintro e w' ⟨⟨rs, S, _, _, hr, _⟩ | ⟨_, he⟩, hb⟩
          · exact absurd ⟨rs, S, hr⟩ hok
          · exact ⟨he, hb⟩))
        clear hok
        go_wp2_with (first
          | (go_at_call 7; (with_reducible refine (HRD.out _ (brefl _)).mono ?_); rintro e w7 ⟨rfl, hb7⟩; have HB7 := Lib.hid hb7; have HBW7 := Lib.hid (HB6.out.trans (hb7.mono hw6)); clear hb7)
          | (go_at_call 8; (with_reducible refine (HRF.out _ HB7.out).mono ?_); rintro e w8 ⟨rfl, hb8⟩; have HB8 := Lib.hid (HBW7.out.trans (hb8.mono HBW7.out.size)); clear hb8))
        go_ret
        exact ⟨rfl, HB8.out.alloc HB8.out.size _⟩
      obtain ⟨rs, S, hok⟩ := hok
      have hS6 := hok.s6 (by rw [HL.out]; exact hn2)
      obtain ⟨N, hN⟩ : ∃ N, N = needE bs S := ⟨_, rfl⟩
      have HOK := Lib.hid hok
      have HRD := Lib.hid (fun W (hW : Below w6.heap.size w6 W) => mread_some a6 nB c6 bs 40 0 40 0 rfl rfl rs S W (HH6.out.below hW) HL.out k61 k62 (by decide) (by decide) (by decide) hok)
      have HRF := Lib.hid (fun W (hW : Below w6.heap.size w6 W) => (refM_any a6 nB c6 bs 40 0 40 0 rfl rfl W (HH6.out.below hW) HL.out k61 k62 hn2 (by decide) (by decide) (by decide)).mono (R' := fun e w' => (∃ (C R E : Nat) (k : Int) (aT : Option Addr) (nT cT : Nat) (a' : Option Addr) (L c' : Nat), e = .returned (.tuple #[.agg #[.slice a6 nB c6, .int .i64 (C : Nat), .int .i64 (R : Nat), .int .i64 (E : Nat), .int .i64 (S : Nat), .int .i64 (N : Nat), .int .i64 k, .slice aT nT cT, .slice a' L c'], .bool true])) ∧ Below W.heap.size W w') (by
        rintro e w' ⟨⟨rs', S', a', c', hr, he⟩ | ⟨hno, _⟩, hb⟩
        · obtain ⟨rfl, rfl⟩ := hok.det hr
          refine ⟨⟨num bs 0 4, num bs 8 4, num bs 12 4, ((0 : Nat) : Int), adv a6 c6 (num bs 4 4), nB - num bs 4 4, c6 - num bs 4 4, a', rs.length, c', ?_⟩, hb⟩
          rw [he, hN]
          rfl
        · exact absurd hok (hno rs S)))
      clear hok
      have HBB := Lib.hid (fun W (hW : Below w6.heap.size w6 W) => HB6.out.trans (hW.mono hw6))
      by_cases hg1 : nE < N
      · have d1 : decide ((nE : Int) < (N : Int)) = true := by simp; omega
        clear hN
        go_wp2_with (first
          | (go_at_call 7; (with_reducible refine (HRD.out _ (brefl _)).mono ?_); rintro e w7 ⟨g7, rfl, hM7, hb7⟩; have HB7 := Lib.hid hb7; have HM7 := Lib.hid hM7; have hz7 := hb7.size; clear hb7 hM7)
          | (go_at_call 8; (with_reducible refine (HRF.out _ HB7.out).mono ?_); rintro e w8 ⟨⟨C, R, E, k, aT, nT, cT, aL, L, cL, rfl⟩, hb8⟩; have HB8 := Lib.hid (HB7.out.trans (hb8.mono hz7)); have z8 := (HB8.out.block g5 l6).trans Z6.out; have q8 := fun o => cell_of_heap z8 o; have l8 := (Array.getElem?_eq_some_iff.1 z8).1; clear hb8 z8))
        go_ret
        exact ⟨rfl, (HBB.out _ HB8.out).alloc (by have := (HBB.out _ HB8.out).size; omega) _⟩
      have d1 : decide ((nE : Int) < (N : Int)) = false := by simp; omega
      by_cases hg2 : nR < S
      · have d2 : decide ((nR : Int) < (S : Int)) = true := by simp; omega
        clear hN
        go_wp2_with (first
          | (go_at_call 7; (with_reducible refine (HRD.out _ (brefl _)).mono ?_); rintro e w7 ⟨g7, rfl, hM7, hb7⟩; have HB7 := Lib.hid hb7; have HM7 := Lib.hid hM7; have hz7 := hb7.size; clear hb7 hM7)
          | (go_at_call 8; (with_reducible refine (HRF.out _ HB7.out).mono ?_); rintro e w8 ⟨⟨C, R, E, k, aT, nT, cT, aL, L, cL, rfl⟩, hb8⟩; have HB8 := Lib.hid (HB7.out.trans (hb8.mono hz7)); have HB78 := Lib.hid hb8; have hz8 := hb8.size; have z8 := (HB8.out.block g5 l6).trans Z6.out; have q8 := fun o => cell_of_heap z8 o; have l8 := (Array.getElem?_eq_some_iff.1 z8).1; clear hb8 z8))
        go_ret
        exact ⟨rfl, (HBB.out _ HB8.out).alloc (by have := (HBB.out _ HB8.out).size; omega) _⟩
      have d2 : decide ((nR : Int) < (S : Int)) = false := by simp; omega
      have HNW := Lib.hid (fun W (hW : Below w6.heap.size w6 W) => gnew_any aI nI cI ids W (HI.out.below (HBB.out W hW)) HIL.out (by omega))
      have HRUN := Lib.hid (fun (B g Bl gl : Nat) (al : Option Addr) (cl gx gp : Nat) (W : World) (hM : MIs B g bs 0 rs S W) (hG : GIs Bl gl al cl (newG ids) W) (hx : W.heap[gx]? = some (.cells #[.func (.func 12) #[] #[.pointer (some ⟨gp, 0, none⟩)]] 51 (0, 0))) (hp : W.heap[gp]? = some (.cells #[.int .i64 0] 3 (0, 0))) =>
        run_stuck B g bs rs S Bl gl al cl (newG ids) gx gp W hM (by omega) HOK.out (fun j hj => hSF.out j (by omega)) hG (by
          intro q hq
          rw [newG_get, Option.map_eq_some_iff] at hq
          obtain ⟨z, hz, rfl⟩ := hq
          exact HIW.out z (List.mem_of_getElem? hz)) (by rw [newG_length, HIL.out]; omega) hx hp)
      clear hN hSF
      go_wp2_with (first
          | (go_at_call 7; (with_reducible refine (HRD.out _ (brefl _)).mono ?_); rintro e w7 ⟨g7, rfl, hM7, hb7⟩; have HB7 := Lib.hid hb7; have HM7 := Lib.hid hM7; have hz7 := hb7.size; clear hb7 hM7)
          | (go_at_call 8; (with_reducible refine (HRF.out _ HB7.out).mono ?_); rintro e w8 ⟨⟨C, R, E, k, aT, nT, cT, aL, L, cL, rfl⟩, hb8⟩; have HB8 := Lib.hid (HB7.out.trans (hb8.mono hz7)); have HB78 := Lib.hid hb8; have hz8 := hb8.size; have z8 := (HB8.out.block g5 l6).trans Z6.out; have q8 := fun o => cell_of_heap z8 o; have l8 := (Array.getElem?_eq_some_iff.1 z8).1; clear hb8 z8)
          | (go_at_call 10; (with_reducible refine (HNW.out _ ((HB8.out.alloc HB8.out.size _).alloc (by have := HB8.out.size; simp; omega) _)).mono ?_); rintro e w9 ⟨g9, a9, c9, rfl, hG9, hg9, hb9⟩; have HG9 := Lib.hid hG9; have HB9 := Lib.hid hb9; have hz9 := hb9.size; simp only [World.size_alloc] at hz9; clear hG9 hg9 hb9)
          | (go_at_call 11; refine (plain_any _ _ _ _).mono ?_; rintro e w10 ⟨rfl, hw10⟩; have HW10 := Lib.hid hw10; clear hw10)
          | (go_at_call 9
             have hB10 : Below w9.heap.size w9 w10 := by rw [HW10.out]; exact balloc (brefl w9) _
             have hx10 : w10.heap[w9.heap.size]? = some (.cells #[.func (.func 12) #[] #[.pointer (some ⟨w8.heap.size + 1, 0, none⟩)]] 51 (0, 0)) := by rw [HW10.out, heap_push, if_pos rfl]
             have hp9 : w9.heap[w8.heap.size + 1]? = some (.cells #[.int .i64 0] 3 (0, 0)) := (HB9.out.block _ (by simp)).trans (by rw [heap_push, if_pos (by simp)])
             have hp10 := (hB10.block _ (Array.getElem?_eq_some_iff.1 hp9).1).trans hp9
             have lp10 := (Array.getElem?_eq_some_iff.1 hp10).1
             have hB79 : Below w7.heap.size w7 w9 := ((HB78.out.alloc hz8 _).alloc (by simp; omega) _).trans (HB9.out.mono (by simp; omega))
             have hB69 : Below w6.heap.size w6 w9 := ((HB8.out.alloc HB8.out.size _).alloc (by have := HB8.out.size; simp; omega) _).trans (HB9.out.mono (by have := HB8.out.size; simp; omega))
             have hB710 := hB79.trans (hB10.mono hB79.size)
             have hB610 := hB69.trans (hB10.mono hB69.size)
             (with_reducible refine (HRUN.out w6.heap.size g7 _ g9 a9 c9 w9.heap.size (w8.heap.size + 1) w10 (HM7.out.below hB710) (HG9.out.below hB10) hx10 hp10).mono ?_)
             rintro e w11 ⟨rfl, hb11⟩
             have z11 := (hb11.block _ lp10).trans hp10
             have q11 := cell_of_heap z11 0
             simp only [List.getElem?_toArray, List.getElem?_cons_zero] at q11
             have l11 := (Array.getElem?_eq_some_iff.1 z11).1
             have f11 := froz_of_heap z11 0
             have HBF := Lib.hid (HBB.out _ (hB610.trans (hb11.mono hB610.size)))
             clear hb11 hB610 hB710 hB69 hB79 hx10 hp9 hp10 hB10 z11))
      go_ret
      exact ⟨rfl, HBF.out⟩

open Go.ChangeShapes Go.WideShapes Go.ChangeAt Go.RowKit
open Go.ChangeMaps (open_string shut_string)

set_option maxRecDepth 100000 in
theorem driveStuck_walks (H : Type) (enc : TypeId × Value → H) : Walks H enc 3 [26, 27] := by
  intro W base args ds p hval hA _
  obtain ⟨v0, vs0, d0, ds0, p0, q0, hargs, rfl, rfl, h0, r0⟩ := trodAll_cons hA
  obtain ⟨v1, vs1, d1, ds1, p1, q1, rfl, rfl, rfl, h1, r1⟩ := trodAll_cons r0
  obtain ⟨rfl, rfl, rfl⟩ := trodAll_nil r1
  obtain rfl : args = #[v0, v1] := by cases args; simp_all
  obtain ⟨p, aC, aR, aE, rv, cC, cR, cE, rfl, hP, hw, hE0⟩ := open_plan0 (hval 0 26 v0 rfl rfl) h0
  obtain ⟨aI, nI, cI, ids, rfl, hl, _, _, _, hI, hIw⟩ := open_ids (hval 1 27 v1 rfl rfl) h1
  exact driveStuck_walk p aC aR aE rv cC cR cE aI nI cI ids W hP hw hE0 hI hl hIw

set_option maxRecDepth 100000 in
theorem driveStuck_lifted (os : Os) (started : os.Started) (H : Type) (enc : TypeId × Value → H) :
    ReturnsInHanded {} Try.checked os 3 .any (Rows.driveStuckSpec.pre6 enc Try.prog Try.f3 Rows.driveStuckRow.domain false) (Rows.driveStuckSpec.post enc Try.prog Try.f3 false true false false) :=
  lift_law (s := Rows.driveStuckSpec) (fn := Try.f3) started (by kernel_rfl) Try.func3
    (ChangeSpec.witness6 (enc := enc) (C := Try.checked) false ⟨#[], #[.agg #[.slice none 0 0, .slice none 0 0, .slice none 0 0, .int .u8 0], .slice none 0 0], []⟩ 8 (by kernel_rfl) (by kernel_rfl) (by kernel_rfl) (by kernel_rfl))
    rfl rfl (fun ds h => by match ds, h with | [d0, d1], _ => rfl) (by intro t ht; simp [Try.params3] at ht; first | (subst ht; exact ⟨by kernel_rfl, of_decide_eq_true (by kernel_rfl)⟩) | (obtain rfl | rfl := ht <;> exact ⟨by kernel_rfl, of_decide_eq_true (by kernel_rfl)⟩) | (obtain rfl | rfl | rfl := ht <;> exact ⟨by kernel_rfl, of_decide_eq_true (by kernel_rfl)⟩) | (obtain rfl | rfl | rfl | rfl := ht <;> exact ⟨by kernel_rfl, of_decide_eq_true (by kernel_rfl)⟩))
    (by rw [Try.params3]; exact driveStuck_walks H enc)
theorem driveStuck_over : Rows.driveStuckRow.holds Try.pinned (OpenSpec.ofChange Rows.driveStuckSpec) :=
  OpenClaim.holds_of_wide 3 Try.f3 rfl rfl rfl rfl rfl rfl rfl ⟨rfl, rfl, rfl, rfl, rfl⟩ rfl rfl rfl rfl rfl (by kernel_rfl) Try.func3 (by kernel_rfl)
    (of_decide_eq_true (by kernel_rfl)) (by unfold Func.isWrapper; first | (rw [if_pos (by decide +kernel)]; kernel_rfl) | (rw [if_neg (by decide +kernel)]; exact ⟨rfl, rfl⟩))
    (fun os started H enc _ => driveStuck_lifted os started H enc)
theorem driveStuck_proved : Rows.DriveStuckSaid := driveStuck_over
#print axioms driveStuck_proved
end Go.Proofs.Ytlhnfpkenlenjaa
