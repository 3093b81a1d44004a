
/- TOLD AND MADE AGAIN, how it starts: the first plan, and when there is nothing to gather. No condition but that the plan lies in memory as its bytes tell. -/
import Derived.Test.YthjnpfhcjacibaaMWhole
namespace Go.Proofs.Ythjnpfhcjacibaa
open Go.RowKit Go.Lib

/-- The plan that the statement writes down first, in memory. -/
theorem start_has (w : World) (pv : Array Value) (t e u s y : TypeId) (ev : Array Value) :
    PlanHas ((((((w.alloc (.cells pv t)).alloc (.cells ev e)).alloc (.cells #[.int .u8 0] u)).alloc (.cells #[.int .u8 0] u)).alloc (.cells #[.slice (some ⟨w.heap.size + 1 + 1, 0, none⟩) 1 1, .slice (some ⟨w.heap.size + 1 + 1 + 1, 0, none⟩) 1 1] s)).alloc (.cells #[.int .i64 1, .int .i64 0, .int .i64 0, .int .i64 0] y))
      planM none (some ⟨w.heap.size + 1 + 1 + 1 + 1, 0, none⟩) [.slice (some ⟨w.heap.size + 1 + 1, 0, none⟩) 1 1, .slice (some ⟨w.heap.size + 1 + 1 + 1, 0, none⟩) 1 1] (some ⟨w.heap.size + 1 + 1 + 1 + 1 + 1, 0, none⟩) := by
  obtain ⟨w1, h1⟩ : ∃ w1, w1 = w.alloc (.cells pv t) := ⟨_, rfl⟩
  obtain ⟨w2, h2⟩ : ∃ w2, w2 = w1.alloc (.cells ev e) := ⟨_, rfl⟩
  obtain ⟨w3, h3⟩ : ∃ w3, w3 = w2.alloc (.cells #[.int .u8 0] u) := ⟨_, rfl⟩
  obtain ⟨w4, h4⟩ : ∃ w4, w4 = w3.alloc (.cells #[.int .u8 0] u) := ⟨_, rfl⟩
  have z1 : w1.heap.size = w.heap.size + 1 := by rw [h1]; simp
  have z2 : w2.heap.size = w.heap.size + 1 + 1 := by rw [h2]; simp [z1]
  have z3 : w3.heap.size = w.heap.size + 1 + 1 + 1 := by rw [h3]; simp [z2]
  have z4 : w4.heap.size = w.heap.size + 1 + 1 + 1 + 1 := by rw [h4]; simp [z3]
  rw [← h1, ← h2, ← h3, ← h4]
  obtain ⟨w5, h5⟩ : ∃ w5, w5 = w4.alloc (.cells #[.slice (some ⟨w.heap.size + 1 + 1, 0, none⟩) 1 1, .slice (some ⟨w.heap.size + 1 + 1 + 1, 0, none⟩) 1 1] s) := ⟨_, rfl⟩
  have z5 : w5.heap.size = w.heap.size + 1 + 1 + 1 + 1 + 1 := by rw [h5]; simp [z4]
  rw [← h5]
  obtain ⟨w6, h6⟩ : ∃ w6, w6 = w5.alloc (.cells #[.int .i64 1, .int .i64 0, .int .i64 0, .int .i64 0] y) := ⟨_, rfl⟩
  rw [← h6]
  have b4 : Below w3.heap.size w3 w4 := by rw [h4]; exact balloc (brefl w3) _
  have b5 : Below w4.heap.size w4 w5 := by rw [h5]; exact balloc (brefl w4) _
  have b6 : Below w5.heap.size w5 w6 := by rw [h6]; exact balloc (brefl w5) _
  have b46 : Below w4.heap.size w4 w6 := b5.trans (b6.mono b5.size)
  have b36 : Below w3.heap.size w3 w6 := b4.trans (b46.mono b4.size)
  have g3 := has_alloc w2 #[.int .u8 0] u
  have g4 := has_alloc w3 #[.int .u8 0] u
  have g5 := has_alloc w4 #[.slice (some ⟨w.heap.size + 1 + 1, 0, none⟩) 1 1, .slice (some ⟨w.heap.size + 1 + 1 + 1, 0, none⟩) 1 1] s
  have g6 := has_alloc w5 #[.int .i64 1, .int .i64 0, .int .i64 0, .int .i64 0] y
  rw [← h3, z2] at g3
  rw [← h4, z3] at g4
  rw [← h5, z4] at g5
  rw [← h6, z5] at g6
  refine ⟨?_, g5.below b6, rfl, ?_, g6⟩
  · exact fun j u h => by simp [planM, bytesV] at h
  · intro i r hr
    match i, hr with
    | 0, hr => simp [planM] at hr; subst hr; exact ⟨_, 1, rfl, g3.below b36⟩
    | 1, hr => simp [planM] at hr; subst hr; exact ⟨_, 1, rfl, g4.below b46⟩
    | n + 2, hr => simp [planM] at hr
set_option maxRecDepth 100000 in
set_option maxHeartbeats 3200000 in
theorem whole_big (nC nR nE cC cR cE wy : Nat) (aC aR aE : Option Addr) (w : World) (hn : ¬ (nC ≤ 40 ∧ nR ≤ 8 ∧ nE ≤ 20)) :
    Calls Try.prog 3 #[.agg #[.slice aC nC cC, .slice aR nR cR, .slice aE nE cE, .int .u8 (wy : Nat)]] w fun e w' => e = .returned (.bool true) ∧ Below w.heap.size w w' := by
  have hAC := allocC
  have hAF := allocF
  go_enter Try.func3, Try.ntmps3
  go_wp2_with fail
  obtain ⟨V, hV⟩ : ∃ V, V = ((((((w.alloc (Obj.cells #[.slice aC nC cC, .slice aR nR cR, .slice aE nE cE, .int .u8 (wy : Nat)] 26)).alloc (Obj.cells #[.int .i64 1, .int .i64 0, .int .i64 0, .int .i64 0] 28)).alloc (Obj.cells #[.int .u8 0] 5)).alloc (Obj.cells #[.int .u8 0] 5)).alloc (Obj.cells #[.slice (some ⟨w.heap.size + 1 + 1, 0, none⟩) 1 1, .slice (some ⟨w.heap.size + 1 + 1 + 1, 0, none⟩) 1 1] 22)).alloc (Obj.cells #[.int .i64 1, .int .i64 0, .int .i64 0, .int .i64 0] 28)) := ⟨_, rfl⟩
  have hp := start_has w #[.slice aC nC cC, .slice aR nR cR, .slice aE nE cE, .int .u8 (wy : Nat)] 26 28 5 22 28 #[.int .i64 1, .int .i64 0, .int .i64 0, .int .i64 0]
  have hb0 : Below w.heap.size w V := by rw [hV]; exact blw
  have z0 : V.heap[w.heap.size]? = some (.cells #[.slice aC nC cC, .slice aR nR cR, .slice aE nE cE, .int .u8 (wy : Nat)] 26 (0, 0)) := by
    rw [hV]
    simp only [heap_push, World.size_alloc]
    rw [if_neg (by omega), if_neg (by omega), if_neg (by omega), if_neg (by omega), if_neg (by omega)]
    first | rfl | exact if_pos rfl | simp
  rw [← hV] at hp
  rw [← hV]
  clear hV
  refine (writeM _ _ _ _ 0 2 1 V hp).mono ?_
  rintro e w7 ⟨a', c', rfl, hown, k1, k2, hb7⟩
  have HW7 := Lib.hid (hb0.trans (hb7.mono hb0.size))
  have Z7 := Lib.hid ((hb7.block w.heap.size (Array.getElem?_eq_some_iff.1 z0).1).trans z0)
  have HHb := Lib.hid (has_of_owns hown)
  have HRD := Lib.hid (fun W (hW : Below w7.heap.size w7 W) => mread_some a' 46 c' bytesM 9 2 9 2 rfl rfl [] 2 W (HHb.out.below hW) rfl k1 k2 (by decide) (by decide) (by decide) okM)
  clear hown hb7 hp hb0 z0
  go_wp2_with fail
  refine (HRD.out _ (brefl _)).mono ?_
  rintro e w8 ⟨g, rfl, hM, hb8⟩
  have z8 := (hb8.block w.heap.size (Array.getElem?_eq_some_iff.1 Z7.out).1).trans Z7.out
  have q8 := fun o => cell_of_heap z8 o
  have f8 := fun o => froz_of_heap z8 o
  have l8 := (Array.getElem?_eq_some_iff.1 z8).1
  have HB8 := Lib.hid (HW7.out.trans (hb8.mono HW7.out.size))
  have HST := Lib.hid (fun W (hW : Below w8.heap.size w8 W) => show Calls Try.prog 6 #[.pointer (some ⟨g, 0, none⟩)] W fun e w' => e = .returned (.int .i64 2) ∧ Below W.heap.size W w' from states_any w7.heap.size g bytesM 2 [] 2 W (hM.below hW))
  clear hM hb8 HRD
  go_wp2_with fail
  refine (HST.out _ (brefl _)).mono ?_
  rintro e w9 ⟨rfl, hb9⟩
  have HB9 := Lib.hid (HB8.out.trans (hb9.mono HB8.out.size))
  have z9 := (hb9.block w.heap.size l8).trans z8
  have q9 := fun o => cell_of_heap z9 o
  have f9 := fun o => froz_of_heap z9 o
  clear q8 f8
  by_cases h1 : nC ≤ 40
  case neg =>
    have d1 : decide ((40 : Int) < (nC : Int)) = true := by simp; omega
    clear hn h1
    go_wp2_with fail
    go_ret
    exact ⟨rfl, HB9.out⟩
  have d1 : decide ((40 : Int) < (nC : Int)) = false := by simp; omega
  by_cases h2 : nR ≤ 8
  case neg =>
    have d2 : decide ((8 : Int) < (nR : Int)) = true := by simp; omega
    clear hn h1 h2
    go_wp2_with fail
    go_ret
    exact ⟨rfl, HB9.out⟩
  have d2 : decide ((8 : Int) < (nR : Int)) = false := by simp; omega
  have d3 : decide ((20 : Int) < (nE : Int)) = true := by simp; omega
  clear hn h1 h2
  go_wp2_with fail
  go_ret
  exact ⟨rfl, HB9.out⟩
set_option maxRecDepth 100000 in
set_option maxHeartbeats 3200000 in
theorem whole_none (nC nR nE cC cR cE wy nB : Nat) (bs : List UInt8) (aC aR aE : Option Addr) (w : World) (hs : nC ≤ 40 ∧ nR ≤ 8 ∧ nE ≤ 20) (hL : bs.length = nB)
    (hw : ∀ W, Below w.heap.size w W → Calls Try.prog 5 #[.agg #[.slice aC nC cC, .slice aR nR cR, .slice aE nE cE, .int .u8 (wy : Nat)], .int .i64 2, .int .i64 0] W fun e w' => ∃ a' c', e = .returned (.slice a' nB c') ∧ Has w' a' (bytesV bs) ∧ nB ≤ c' ∧ c' ≤ maxLen ∧ Below W.heap.size W w')
    (hno : ∀ rs S, ¬ MOk bs 40 2 rs S) :
    Calls Try.prog 3 #[.agg #[.slice aC nC cC, .slice aR nR cR, .slice aE nE cE, .int .u8 (wy : Nat)]] w fun e w' => e = .returned (.bool true) ∧ Below w.heap.size w w' := by
  have hAC := allocC
  have hAF := allocF
  have HW := Lib.hid hw
  have HL := Lib.hid hL
  have d1 : decide ((40 : Int) < (nC : Int)) = false := by simp; omega
  have d2 : decide ((8 : Int) < (nR : Int)) = false := by simp; omega
  have d3 : decide ((20 : Int) < (nE : Int)) = false := by simp; omega
  clear hw hL hs
  have HNO := Lib.hid hno
  clear hno
  go_enter Try.func3, Try.ntmps3
  go_wp2_with fail
  obtain ⟨V, hV⟩ : ∃ V, V = ((((((w.alloc (Obj.cells #[.slice aC nC cC, .slice aR nR cR, .slice aE nE cE, .int .u8 (wy : Nat)] 26)).alloc (Obj.cells #[.int .i64 1, .int .i64 0, .int .i64 0, .int .i64 0] 28)).alloc (Obj.cells #[.int .u8 0] 5)).alloc (Obj.cells #[.int .u8 0] 5)).alloc (Obj.cells #[.slice (some ⟨w.heap.size + 1 + 1, 0, none⟩) 1 1, .slice (some ⟨w.heap.size + 1 + 1 + 1, 0, none⟩) 1 1] 22)).alloc (Obj.cells #[.int .i64 1, .int .i64 0, .int .i64 0, .int .i64 0] 28)) := ⟨_, rfl⟩
  have hp := start_has w #[.slice aC nC cC, .slice aR nR cR, .slice aE nE cE, .int .u8 (wy : Nat)] 26 28 5 22 28 #[.int .i64 1, .int .i64 0, .int .i64 0, .int .i64 0]
  have hb0 : Below w.heap.size w V := by rw [hV]; exact blw
  have z0 : V.heap[w.heap.size]? = some (.cells #[.slice aC nC cC, .slice aR nR cR, .slice aE nE cE, .int .u8 (wy : Nat)] 26 (0, 0)) := by
    rw [hV]
    simp only [heap_push, World.size_alloc]
    rw [if_neg (by omega), if_neg (by omega), if_neg (by omega), if_neg (by omega), if_neg (by omega)]
    first | rfl | exact if_pos rfl | simp
  rw [← hV] at hp
  rw [← hV]
  clear hV
  refine (writeM _ _ _ _ 0 2 1 V hp).mono ?_
  rintro e w7 ⟨a', c', rfl, hown, k1, k2, hb7⟩
  have HW7 := Lib.hid (hb0.trans (hb7.mono hb0.size))
  have Z7 := Lib.hid ((hb7.block w.heap.size (Array.getElem?_eq_some_iff.1 z0).1).trans z0)
  have HHb := Lib.hid (has_of_owns hown)
  have HRD := Lib.hid (fun W (hW : Below w7.heap.size w7 W) => mread_some a' 46 c' bytesM 9 2 9 2 rfl rfl [] 2 W (HHb.out.below hW) rfl k1 k2 (by decide) (by decide) (by decide) okM)
  clear hown hb7 hp hb0 z0
  go_wp2_with fail
  refine (HRD.out _ (brefl _)).mono ?_
  rintro e w8 ⟨g, rfl, hM, hb8⟩
  have z8 := (hb8.block w.heap.size (Array.getElem?_eq_some_iff.1 Z7.out).1).trans Z7.out
  have q8 := fun o => cell_of_heap z8 o
  have f8 := fun o => froz_of_heap z8 o
  have l8 := (Array.getElem?_eq_some_iff.1 z8).1
  have HB8 := Lib.hid (HW7.out.trans (hb8.mono HW7.out.size))
  have HST := Lib.hid (fun W (hW : Below w8.heap.size w8 W) => show Calls Try.prog 6 #[.pointer (some ⟨g, 0, none⟩)] W fun e w' => e = .returned (.int .i64 2) ∧ Below W.heap.size W w' from states_any w7.heap.size g bytesM 2 [] 2 W (hM.below hW))
  clear hM hb8 HRD
  go_wp2_with fail
  refine (HST.out _ (brefl _)).mono ?_
  rintro e w9 ⟨rfl, hb9⟩
  have HB9 := Lib.hid (HB8.out.trans (hb9.mono HB8.out.size))
  have z9 := (hb9.block w.heap.size l8).trans z8
  have q9 := fun o => cell_of_heap z9 o
  have f9 := fun o => froz_of_heap z9 o
  clear q8 f8
  go_wp2_with fail
  refine (HW.out _ HB9.out).mono ?_
  rintro e w10 ⟨a1, c1, rfl, hh1, k11, k12, hb10⟩
  have HB10 := Lib.hid (HB9.out.trans (hb10.mono HB9.out.size))
  have HH1 := Lib.hid hh1
  clear hh1 hb10 q9 f9 z9
  go_wp2_with fail
  refine (mread_none a1 nB c1 bs 40 2 40 2 rfl rfl w10 HH1.out HL.out k11 k12 (by decide) (by decide) (by decide) HNO.out).mono ?_
  rintro e w11 ⟨rfl, hb11⟩
  have HB11 := Lib.hid (HB10.out.trans (hb11.mono HB10.out.size))
  clear hb11
  go_wp2_with fail
  go_ret
  exact ⟨rfl, HB11.out⟩
set_option maxRecDepth 100000 in
set_option maxHeartbeats 3200000 in
theorem whole_wide (nC nR nE cC cR cE wy nB : Nat) (bs : List UInt8) (aC aR aE : Option Addr) (w : World) (hs : nC ≤ 40 ∧ nR ≤ 8 ∧ nE ≤ 20) (hL : bs.length = nB)
    (hw : ∀ W, Below w.heap.size w W → Calls Try.prog 5 #[.agg #[.slice aC nC cC, .slice aR nR cR, .slice aE nE cE, .int .u8 (wy : Nat)], .int .i64 2, .int .i64 0] W fun e w' => ∃ a' c', e = .returned (.slice a' nB c') ∧ Has w' a' (bytesV bs) ∧ nB ≤ c' ∧ c' ≤ maxLen ∧ Below W.heap.size W w')
    (rs : List RP) (S : Nat) (hok : MOk bs 40 2 rs S) (hbig : 250 < S * num bs 0 4 ∨ 11 < num bs 0 4) :
    Calls Try.prog 3 #[.agg #[.slice aC nC cC, .slice aR nR cR, .slice aE nE cE, .int .u8 (wy : Nat)]] w fun e w' => e = .returned (.bool true) ∧ Below w.heap.size w w' := by
  have hAC := allocC
  have hAF := allocF
  have HW := Lib.hid hw
  have HL := Lib.hid hL
  have d1 : decide ((40 : Int) < (nC : Int)) = false := by simp; omega
  have d2 : decide ((8 : Int) < (nR : Int)) = false := by simp; omega
  have d3 : decide ((20 : Int) < (nE : Int)) = false := by simp; omega
  clear hw hL hs
  have HOK := Lib.hid hok
  have hS : S ≤ 65536 := by have := hok.least.is_max; have := needS_le bs 2 (needE bs S); omega
  have hC := hok.cls.2
  have hP : S * num bs 0 4 ≤ 65536 * 65535 := Nat.mul_le_mul hS hC
  clear hok
  go_enter Try.func3, Try.ntmps3
  go_wp2_with fail
  obtain ⟨V, hV⟩ : ∃ V, V = ((((((w.alloc (Obj.cells #[.slice aC nC cC, .slice aR nR cR, .slice aE nE cE, .int .u8 (wy : Nat)] 26)).alloc (Obj.cells #[.int .i64 1, .int .i64 0, .int .i64 0, .int .i64 0] 28)).alloc (Obj.cells #[.int .u8 0] 5)).alloc (Obj.cells #[.int .u8 0] 5)).alloc (Obj.cells #[.slice (some ⟨w.heap.size + 1 + 1, 0, none⟩) 1 1, .slice (some ⟨w.heap.size + 1 + 1 + 1, 0, none⟩) 1 1] 22)).alloc (Obj.cells #[.int .i64 1, .int .i64 0, .int .i64 0, .int .i64 0] 28)) := ⟨_, rfl⟩
  have hp := start_has w #[.slice aC nC cC, .slice aR nR cR, .slice aE nE cE, .int .u8 (wy : Nat)] 26 28 5 22 28 #[.int .i64 1, .int .i64 0, .int .i64 0, .int .i64 0]
  have hb0 : Below w.heap.size w V := by rw [hV]; exact blw
  have z0 : V.heap[w.heap.size]? = some (.cells #[.slice aC nC cC, .slice aR nR cR, .slice aE nE cE, .int .u8 (wy : Nat)] 26 (0, 0)) := by
    rw [hV]
    simp only [heap_push, World.size_alloc]
    rw [if_neg (by omega), if_neg (by omega), if_neg (by omega), if_neg (by omega), if_neg (by omega)]
    first | rfl | exact if_pos rfl | simp
  rw [← hV] at hp
  rw [← hV]
  clear hV
  refine (writeM _ _ _ _ 0 2 1 V hp).mono ?_
  rintro e w7 ⟨a', c', rfl, hown, k1, k2, hb7⟩
  have HW7 := Lib.hid (hb0.trans (hb7.mono hb0.size))
  have Z7 := Lib.hid ((hb7.block w.heap.size (Array.getElem?_eq_some_iff.1 z0).1).trans z0)
  have HHb := Lib.hid (has_of_owns hown)
  have HRD := Lib.hid (fun W (hW : Below w7.heap.size w7 W) => mread_some a' 46 c' bytesM 9 2 9 2 rfl rfl [] 2 W (HHb.out.below hW) rfl k1 k2 (by decide) (by decide) (by decide) okM)
  clear hown hb7 hp hb0 z0
  go_wp2_with fail
  refine (HRD.out _ (brefl _)).mono ?_
  rintro e w8 ⟨g, rfl, hM, hb8⟩
  have z8 := (hb8.block w.heap.size (Array.getElem?_eq_some_iff.1 Z7.out).1).trans Z7.out
  have q8 := fun o => cell_of_heap z8 o
  have f8 := fun o => froz_of_heap z8 o
  have l8 := (Array.getElem?_eq_some_iff.1 z8).1
  have HB8 := Lib.hid (HW7.out.trans (hb8.mono HW7.out.size))
  have HST := Lib.hid (fun W (hW : Below w8.heap.size w8 W) => show Calls Try.prog 6 #[.pointer (some ⟨g, 0, none⟩)] W fun e w' => e = .returned (.int .i64 2) ∧ Below W.heap.size W w' from states_any w7.heap.size g bytesM 2 [] 2 W (hM.below hW))
  clear hM hb8 HRD
  go_wp2_with fail
  refine (HST.out _ (brefl _)).mono ?_
  rintro e w9 ⟨rfl, hb9⟩
  have HB9 := Lib.hid (HB8.out.trans (hb9.mono HB8.out.size))
  have z9 := (hb9.block w.heap.size l8).trans z8
  have q9 := fun o => cell_of_heap z9 o
  have f9 := fun o => froz_of_heap z9 o
  clear q8 f8
  go_wp2_with fail
  refine (HW.out _ HB9.out).mono ?_
  rintro e w10 ⟨a1, c1, rfl, hh1, k11, k12, hb10⟩
  have HB10 := Lib.hid (HB9.out.trans (hb10.mono HB9.out.size))
  have HH1 := Lib.hid hh1
  clear hh1 hb10 q9 f9 z9
  go_wp2_with fail
  refine (mread_some a1 nB c1 bs 40 2 40 2 rfl rfl rs S w10 HH1.out HL.out k11 k12 (by decide) (by decide) (by decide) HOK.out).mono ?_
  rintro e w11 ⟨g1, rfl, hM1, hb11⟩
  have HB11 := Lib.hid (HB10.out.trans (hb11.mono HB10.out.size))
  have HST1 := Lib.hid (fun W (hW : Below w11.heap.size w11 W) => states_any w10.heap.size g1 bs 2 rs S W (hM1.below hW))
  have HCL1 := Lib.hid (fun W (hW : Below w11.heap.size w11 W) => classes_any w10.heap.size g1 bs 2 rs S W (hM1.below hW))
  clear hb11 hM1
  generalize num bs 0 4 = C at *
  have dm : (S : Int) * (C : Int) = ((S * C : Nat) : Int) := by simp
  generalize S * C = P at *
  by_cases h1 : 250 < P
  · have d5 : decide ((250 : Int) < (P : Int)) = true := by simp; omega
    clear hbig
    go_wp2_with (first | (go_at_call 6; (with_reducible refine (HST1.out _ (by exact blw)).mono ?_); rintro e w21 ⟨rfl, hb21⟩; have h21c := bc hb21; have h21f := bf hb21; have h21z := hb21.size; try simp only [World.size_alloc, World.size_drew] at h21z) | (go_at_call 7; (with_reducible refine (HCL1.out _ (by exact blw)).mono ?_); rintro e w22 ⟨rfl, hb22⟩; have h22c := bc hb22; have h22f := bf hb22; have h22z := hb22.size; try simp only [World.size_alloc, World.size_drew] at h22z))
    go_ret
    exact ⟨rfl, HB11.out.trans (Below.mono (show Below w11.heap.size w11 _ from by exact blw) HB11.out.size)⟩
  have d5 : decide ((250 : Int) < (P : Int)) = false := by simp; omega
  have d6 : decide ((11 : Int) < (C : Int)) = true := by simp; omega
  clear hbig
  go_wp2_with (first | (go_at_call 6; (with_reducible refine (HST1.out _ (by exact blw)).mono ?_); rintro e w31 ⟨rfl, hb31⟩; have h31c := bc hb31; have h31f := bf hb31; have h31z := hb31.size; try simp only [World.size_alloc, World.size_drew] at h31z) | (go_at_call 7; (with_reducible refine (HCL1.out _ (by exact blw)).mono ?_); rintro e w32 ⟨rfl, hb32⟩; have h32c := bc hb32; have h32f := bf hb32; have h32z := hb32.size; try simp only [World.size_alloc, World.size_drew] at h32z) | (go_at_call 7; (with_reducible refine (HCL1.out _ (by exact blw)).mono ?_); rintro e w33 ⟨rfl, hb33⟩; have h33c := bc hb33; have h33f := bf hb33; have h33z := hb33.size; try simp only [World.size_alloc, World.size_drew] at h33z))
  go_ret
  exact ⟨rfl, HB11.out.trans (Below.mono (show Below w11.heap.size w11 _ from by exact blw) HB11.out.size)⟩
end Go.Proofs.Ythjnpfhcjacibaa
