
/- For any bytes the machine that they begin with is the document's, or there is none: its classes, states and entries. No condition but those of the statement. -/
import Derived.Test.YtlkbadomklefmaaMSpeak
import Derived.Test.YtlkbadomklefmaaMRefT
import Derived.Test.YtlkbadomklefmaaFrame
namespace Go.Proofs.Ytlkbadomklefmaa
open Go.RowKit Go.Lib

theorem lk_small {bs : List UInt8} {glyphs size : Nat} {rs : List RP} (h : LkRows bs glyphs size rs) : ∀ r ∈ rs, r.own = false → r.at_ + r.size ≤ bs.length := by
  intro r hr ho
  cases h with
  | all => simp at hr; subst hr; cases ho
  | two h h0 h1 =>
    obtain ⟨i, hi, rfl⟩ := List.mem_map.1 hr
    have hi := List.mem_range.1 hi
    have hf := h1.rows
    have hs := h1.size
    have hM : skM bs 2 2 ≤ skN bs 2 := by unfold skM; split <;> omega
    have : i * skS bs 2 + skS bs 2 ≤ skN bs 2 * skS bs 2 := by rw [← Nat.succ_mul]; exact Nat.mul_le_mul_right _ (by omega)
    show 12 + i * skS bs 2 + 4 + size ≤ bs.length
    omega
  | four h h0 h1 => obtain ⟨i, hi, rfl⟩ := List.mem_map.1 hr; cases ho
  | six h h0 h1 =>
    obtain ⟨i, hi, rfl⟩ := List.mem_map.1 hr
    have hi := List.mem_range.1 hi
    have hf := h1.rows
    have hs := h1.size
    have hM : skM bs 2 1 ≤ skN bs 2 := by unfold skM; split <;> omega
    have : i * skS bs 2 + skS bs 2 ≤ skN bs 2 * skS bs 2 := by rw [← Nat.succ_mul]; exact Nat.mul_le_mul_right _ (by omega)
    show 12 + i * skS bs 2 + 2 + size ≤ bs.length
    omega
  | eight h h0 h1 => unfold rowsT at hr; split at hr <;> simp at hr; subst hr; cases ho
  | ten h h0 hu h1 => unfold rowsT at hr; split at hr <;> simp at hr; subst hr; cases ho
theorem LkOk.fitG {bs : List UInt8} {glyphs size : Nat} {rs : List RP} (h : LkOk bs glyphs size rs) (hg : glyphs ≤ 65535) (hs : size = 2 ∨ size = 4) : ∀ r ∈ rs, fitG bs.length r := by
  intro r hr
  obtain ⟨e1, e2⟩ := (h.rows.each hg hs).2 r hr
  have h3 := lk_small h.rows r hr
  obtain ⟨i, hi, rfl⟩ := List.getElem_of_mem hr
  obtain ⟨⟨c1, c2⟩, c3⟩ := h.ok i _ (List.getElem?_eq_getElem hi)
  refine ⟨by omega, e1, e2, ?_⟩
  cases ho : rs[i].own with
  | true => rw [if_pos rfl]; exact c3 ho
  | false => rw [if_neg (by simp)]; exact h3 ho
def classG (tb : List UInt8) (rs : List RP) (C : Nat) (id : Int) : Nat :=
  if id = 65535 then 2 else if (refG tb rs id).2 = true ∧ (refG tb rs id).1 < C then (refG tb rs id).1 else 1
theorem classG_M {g : Nat} (bs : List UInt8) (rs : List RP) (h : LkOk (bs.drop (num bs 4 4)) g 2 rs) (hg : g ≤ 65535) (id : Int) : classG (bs.drop (num bs 4 4)) rs (num bs 0 4) id = classM bs rs id := by
  have := (refG_tab (bs.drop (num bs 4 4)) rs h.ok (fun r hr => (h.rows.each hg (.inl rfl)).2 r hr) id rs.length (Nat.le_refl _)).1
  rw [List.take_length] at this
  unfold classG classM
  rw [this]
set_option maxRecDepth 100000 in
set_option maxHeartbeats 3200000 in
theorem refcls_any (a : Option Addr) (n c C R E S N k : Nat) (aT : Option Addr) (nT cT : Nat) (tb : List UInt8) (a' : Option Addr) (c' : Nat) (rs : List RP) (id : Int) (w : World) (h : Has w aT (bytesV tb)) (hl : tb.length = nT) (hn : nT ≤ 100000000) (hr : Has w a' (encRs rs)) (hrl : rs.length ≤ 100000) (hf : ∀ r ∈ rs, fitG nT r) (hC : C ≤ 65535) (hid : -9223372036854775808 ≤ id ∧ id ≤ 9223372036854775807) :
    Calls Try.prog 11 #[.agg (mrefA a n c C R E S N k aT nT cT a' rs.length c'), .int .i64 id] w fun e w' => e = .returned (.int .i64 (classG tb rs C id : Nat)) ∧ Below w.heap.size w w' := by
  have hAC := allocC
  have hAF := allocF
  by_cases h5 : id = 65535
  · subst h5
    unfold mrefA
    clear h hl hr hf
    go_enter Try.func11, Try.ntmps11
    go_wp2_with fail
    go_ret
    exact ⟨rfl, blw⟩
  have hne : (id == 65535) = false := by simpa using h5
  have HG := Lib.hid (fun W (hW : Below w.heap.size w W) => refget_any aT nT cT tb a' c' rs id W (h.below hW) hl hn (hr.below hW) hrl hf hid)
  have HR := Lib.hid (show classG tb rs C id = if (refG tb rs id).2 = true ∧ (refG tb rs id).1 < C then (refG tb rs id).1 else 1 from by unfold classG; rw [if_neg h5])
  clear h hl hr hf h5
  generalize classG tb rs C id = Q at *
  generalize (refG tb rs id).1 = x at *
  generalize (refG tb rs id).2 = b at *
  generalize rs.length = L at *
  unfold mrefA
  cases b with
  | false =>
    obtain rfl : Q = 1 := by have := HR.out; simpa using this
    clear HR
    go_enter Try.func11, Try.ntmps11
    go_wp2_with (first | (go_at_call 35; (with_reducible refine (HG.out _ (by exact blw)).mono ?_); rintro e w1 ⟨rfl, hb1⟩))
    go_ret
    exact ⟨rfl, blw⟩
  | true =>
    by_cases hlt : x < C
    · obtain rfl : Q = x := by have := HR.out; simpa [hlt] using this
      clear HR
      have d : decide ((Q : Int) < (C : Int)) = true := by simp; omega
      have d' : decide ((C : Int) ≤ (Q : Int)) = false := by simp; omega
      have d2 : decide (C ≤ Q) = false := by simp; omega
      go_enter Try.func11, Try.ntmps11
      go_wp2_with (first | (go_at_call 35; (with_reducible refine (HG.out _ (by exact blw)).mono ?_); rintro e w1 ⟨rfl, hb1⟩; have c1 := (hb1.cell (p := ⟨w.heap.size, 1, none⟩) (by simp)).trans (by rw [hAC, if_pos rfl]; rfl : _ = some (Value.int .i64 (C : Nat)))))
      go_ret
      exact ⟨rfl, blw⟩
    · obtain rfl : Q = 1 := by have := HR.out; simpa [hlt] using this
      clear HR
      have d : decide ((x : Int) < (C : Int)) = false := by simp; omega
      have d' : decide ((C : Int) ≤ (x : Int)) = true := by simp; omega
      have d2 : decide (C ≤ x) = true := by simp; omega
      go_enter Try.func11, Try.ntmps11
      go_wp2_with (first | (go_at_call 35; (with_reducible refine (HG.out _ (by exact blw)).mono ?_); rintro e w1 ⟨rfl, hb1⟩; have c1 := (hb1.cell (p := ⟨w.heap.size, 1, none⟩) (by simp)).trans (by rw [hAC, if_pos rfl]; rfl : _ = some (Value.int .i64 (C : Nat)))))
      go_ret
      exact ⟨rfl, blw⟩
set_option maxRecDepth 100000 in
set_option maxHeartbeats 3200000 in
theorem stateReads_bad (a : Option Addr) (n c : Nat) (bs : List UInt8) (z0 z1 id : Int) (w : World) (h : Has w a (bytesV bs)) (hl : bs.length = n) (hn : n ≤ c) (hc : c ≤ maxLen) (h0 : -9223372036854775808 ≤ z0 ∧ z0 ≤ 9223372036854775807) (h1 : -9223372036854775808 ≤ z1 ∧ z1 ≤ 9223372036854775807) (hsm : n ≤ 600) (hb : badM z0 z1) :
    Calls Try.prog 3 #[.slice a n c, .agg #[.int .i64 z0, .int .i64 z1], .int .i64 id] w fun e w' => e = .returned (.bool true) ∧ Below w.heap.size w w' := by
  have hAC := allocC
  have hAF := allocF
  have HSP := Lib.hid (fun W => speaks7_any W)
  have HMA := Lib.hid (fun W (hW : Below w.heap.size w W) => mread_arg a n c bs z0 z1 W (h.below hW) hl hn hc h0 h1 hb)
  have HB := Lib.hid hb
  have d1 : decide (600 < (n : Int)) = false := by simp; omega
  clear h hl hb
  by_cases g0 : z0 < 1
  · have d2 : decide (z0 < 1) = true := by simpa using g0
    clear g0
    go_enter Try.func3, Try.ntmps3
    go_wp2_with (first | (go_at_call 6; (with_reducible refine (HSP.out _).mono ?_); rintro e w1 ⟨rfl, hb1⟩; have h1c := bc hb1; have h1f := bf hb1; have h1z := hb1.size; try simp only [World.size_alloc, World.size_drew] at h1z) | (go_at_call 7; (with_reducible refine (HMA.out _ (by exact blw)).mono ?_); rintro e w2 ⟨rfl, hb2⟩; have h2c := bc hb2; have h2f := bf hb2; have h2z := hb2.size; try simp only [World.size_alloc, World.size_drew] at h2z))
    go_ret
    exact ⟨rfl, blw⟩
  have d2 : decide (z0 < 1) = false := by simpa using g0
  by_cases g1 : 65535 < z0
  · have d3 : decide (65535 < z0) = true := by simpa using g1
    clear g1
    go_enter Try.func3, Try.ntmps3
    go_wp2_with (first | (go_at_call 6; (with_reducible refine (HSP.out _).mono ?_); rintro e w1 ⟨rfl, hb1⟩; have h1c := bc hb1; have h1f := bf hb1; have h1z := hb1.size; try simp only [World.size_alloc, World.size_drew] at h1z) | (go_at_call 7; (with_reducible refine (HMA.out _ (by exact blw)).mono ?_); rintro e w2 ⟨rfl, hb2⟩; have h2c := bc hb2; have h2f := bf hb2; have h2z := hb2.size; try simp only [World.size_alloc, World.size_drew] at h2z))
    go_ret
    exact ⟨rfl, blw⟩
  have d3 : decide (65535 < z0) = false := by simpa using g1
  by_cases g2 : z1 < 0
  · have d4 : decide (z1 < 0) = true := by simpa using g2
    clear g2
    go_enter Try.func3, Try.ntmps3
    go_wp2_with (first | (go_at_call 6; (with_reducible refine (HSP.out _).mono ?_); rintro e w1 ⟨rfl, hb1⟩; have h1c := bc hb1; have h1f := bf hb1; have h1z := hb1.size; try simp only [World.size_alloc, World.size_drew] at h1z) | (go_at_call 7; (with_reducible refine (HMA.out _ (by exact blw)).mono ?_); rintro e w2 ⟨rfl, hb2⟩; have h2c := bc hb2; have h2f := bf hb2; have h2z := hb2.size; try simp only [World.size_alloc, World.size_drew] at h2z))
    go_ret
    exact ⟨rfl, blw⟩
  have d4 : decide (z1 < 0) = false := by simpa using g2
  have g3 : 2 < z1 := by have := HB.out; unfold badM at this; omega
  have d5 : decide (2 < z1) = true := by simpa using g3
  clear g3
  go_enter Try.func3, Try.ntmps3
  go_wp2_with (first | (go_at_call 6; (with_reducible refine (HSP.out _).mono ?_); rintro e w1 ⟨rfl, hb1⟩; have h1c := bc hb1; have h1f := bf hb1; have h1z := hb1.size; try simp only [World.size_alloc, World.size_drew] at h1z) | (go_at_call 7; (with_reducible refine (HMA.out _ (by exact blw)).mono ?_); rintro e w2 ⟨rfl, hb2⟩; have h2c := bc hb2; have h2f := bf hb2; have h2z := hb2.size; try simp only [World.size_alloc, World.size_drew] at h2z))
  go_ret
  exact ⟨rfl, blw⟩
set_option maxRecDepth 100000 in
set_option maxHeartbeats 3200000 in
theorem stateReads_walk (a : Option Addr) (n c : Nat) (bs : List UInt8) (z0 z1 id : Int) (w : World) (h : Has w a (bytesV bs)) (hl : bs.length = n) (hn : n ≤ c) (hc : c ≤ maxLen) (h0 : -9223372036854775808 ≤ z0 ∧ z0 ≤ 9223372036854775807) (h1 : -9223372036854775808 ≤ z1 ∧ z1 ≤ 9223372036854775807) (hid : -9223372036854775808 ≤ id ∧ id ≤ 9223372036854775807) :
    Calls Try.prog 3 #[.slice a n c, .agg #[.int .i64 z0, .int .i64 z1], .int .i64 id] w fun e w' => e = .returned (.bool true) ∧ Below w.heap.size w w' := by
  have hAC := allocC
  have hAF := allocF
  have HSP := Lib.hid (fun W => speaks7_any W)
  by_cases hbig : 600 < n
  · have d1 : decide (600 < (n : Int)) = true := by simp; omega
    clear h hl
    go_enter Try.func3, Try.ntmps3
    go_wp2_with (first | (go_at_call 6; (with_reducible refine (HSP.out _).mono ?_); rintro e w1 ⟨rfl, hb1⟩; have h1c := bc hb1; have h1f := bf hb1; have h1z := hb1.size; try simp only [World.size_alloc, World.size_drew] at h1z))
    go_ret
    exact ⟨rfl, blw⟩
  by_cases hbad : badM z0 z1
  · exact stateReads_bad a n c bs z0 z1 id w h hl hn hc h0 h1 (by omega) hbad
  have d1 : decide (600 < (n : Int)) = false := by simp; omega
  have hgood : 1 ≤ z0 ∧ z0 ≤ 65535 ∧ 0 ≤ z1 ∧ z1 ≤ 2 := by unfold badM at hbad; omega
  clear hbad h0 h1
  obtain ⟨gl, rfl⟩ : ∃ x : Nat, z0 = x := ⟨z0.toNat, by omega⟩
  obtain ⟨k, rfl⟩ : ∃ x : Nat, z1 = x := ⟨z1.toNat, by omega⟩
  have hg1 : 1 ≤ gl := by omega
  have hg2 : gl ≤ 65535 := by omega
  have hk : k ≤ 2 := by omega
  have d2 : decide ((gl : Int) < 1) = false := by simp; omega
  have d3 : decide (65535 < (gl : Int)) = false := by simp; omega
  have d4 : decide ((k : Int) < 0) = false := by simp
  have d5 : decide (2 < (k : Int)) = false := by simp; omega
  clear hgood
  have HH := Lib.hid h
  have HL := Lib.hid hl
  clear h hl
  by_cases hok : ∃ rs S, MOk bs gl k rs S
  case neg =>
    have hno : ∀ rs S, ¬ MOk bs gl k rs S := fun rs S ho => hok ⟨rs, S, ho⟩
    have HMN := Lib.hid (fun W (hW : Below w.heap.size w W) => mread_none a n c bs gl k (gl : Int) (k : Int) rfl rfl W (HH.out.below hW) HL.out hn hc hg1 hg2 hk hno)
    have HRF := Lib.hid (fun W (hW : Below w.heap.size w W) => (refM_any a n c bs gl k (gl : Int) (k : Int) rfl rfl W (HH.out.below hW) HL.out hn hc (by omega) hg1 hg2 hk).mono (R' := fun e w' => e = .returned (.tuple #[zeroMV, .bool false]) ∧ Below W.heap.size W w') (by
      rintro e w' ⟨(⟨rs, S, _, _, ho, _⟩ | ⟨_, he⟩), hb⟩
      · exact absurd ho (hno rs S)
      · exact ⟨he, hb⟩))
    unfold zeroMV at HRF
    clear hok hno
    go_enter Try.func3, Try.ntmps3
    go_wp2_with (first | (go_at_call 6; (with_reducible refine (HSP.out _).mono ?_); rintro e w1 ⟨rfl, hb1⟩; have h1c := bc hb1; have h1f := bf hb1; have h1z := hb1.size; try simp only [World.size_alloc, World.size_drew] at h1z) | (go_at_call 7; (with_reducible refine (HMN.out _ (by exact blw)).mono ?_); rintro e w2 ⟨rfl, hb2⟩; have h2c := bc hb2; have h2f := bf hb2; have h2z := hb2.size; try simp only [World.size_alloc, World.size_drew] at h2z) | (go_at_call 8; (with_reducible refine (HRF.out _ (by exact blw)).mono ?_); rintro e w3 ⟨rfl, hb3⟩; have h3c := bc hb3; have h3f := bf hb3; have h3z := hb3.size; try simp only [World.size_alloc, World.size_drew] at h3z))
    go_ret
    exact ⟨rfl, blw⟩
  obtain ⟨rs, S, hok⟩ := hok
  have HOK := Lib.hid hok
  have HMS := Lib.hid (fun W (hW : Below w.heap.size w W) => mread_some a n c bs gl k (gl : Int) (k : Int) rfl rfl rs S W (HH.out.below hW) HL.out hn hc hg1 hg2 hk hok)
  have HRF := Lib.hid (fun W (hW : Below w.heap.size w W) => (refM_new a n c bs gl k (gl : Int) (k : Int) rfl rfl W (HH.out.below hW) HL.out hn hc (by omega) hg1 hg2 hk).mono (R' := fun e w' => (∃ a' c', e = .returned (.tuple #[.agg (mrefA a n c (num bs 0 4) (num bs 8 4) (num bs 12 4) S (needE bs S) k (adv a c (num bs 4 4)) (n - num bs 4 4) (c - num bs 4 4) a' rs.length c'), .bool true]) ∧ Has w' a' (encRs rs)) ∧ Below W.heap.size W w') (by
      rintro e w' ⟨(⟨rs', S', a', c', ho, he, hw⟩ | ⟨hno, _⟩), hb⟩
      · obtain ⟨rfl, rfl⟩ := hok.det ho
        exact ⟨⟨a', c', he, hw.1⟩, hb⟩
      · exact absurd hok (hno rs S)))
  unfold mrefA at HRF
  clear hok
  go_enter Try.func3, Try.ntmps3
  go_wp2_with (first | (go_at_call 6; (with_reducible refine (HSP.out _).mono ?_); rintro e w1 ⟨rfl, hb1⟩; have h1c := bc hb1; have h1f := bf hb1; have h1z := hb1.size; try simp only [World.size_alloc, World.size_drew] at h1z) | (go_at_call 7; (with_reducible refine (HMS.out _ (by exact blw)).mono ?_); rintro e w2 ⟨g, rfl, hM, hb2⟩; have h2c := bc hb2; have h2f := bf hb2; have h2z := hb2.size; have HM2 := Lib.hid hM; clear hM; try simp only [World.size_alloc] at h2z) | (go_at_call 8; (with_reducible refine (HRF.out _ (by exact blw)).mono ?_); rintro e w3 ⟨⟨a', c', rfl, hrow⟩, hb3⟩; have h3z := hb3.size; have HROW := Lib.hid hrow; clear hrow))
  have HB3 := Lib.hid (show Below w.heap.size w w3 from by exact blw)
  obtain ⟨X, hX⟩ : ∃ X, X = w3.alloc (Obj.cells (mrefA a n c (num bs 0 4) (num bs 8 4) (num bs 12 4) S (needE bs S) k (adv a c (num bs 4 4)) (n - num bs 4 4) (c - num bs 4 4) a' rs.length c') 33) := ⟨_, rfl⟩
  have hXe := hX
  unfold mrefA at hXe
  rw [← hXe]
  have x9 : X.heap[w3.heap.size]? = some (Obj.cells (mrefA a n c (num bs 0 4) (num bs 8 4) (num bs 12 4) S (needE bs S) k (adv a c (num bs 4 4)) (n - num bs 4 4) (c - num bs 4 4) a' rs.length c') 33 (0, 0)) := by rw [hX]; exact (heap_push _ _ _).trans (if_pos rfl)
  have hbX : Below w3.heap.size w3 X := by rw [hX]; exact balloc (brefl _) _
  have hbX2 : Below w2.heap.size w2 X := hb3.trans (hbX.mono h3z)
  have HBX := Lib.hid (HB3.out.trans (hbX.mono HB3.out.size))
  have hwX : w.heap.size ≤ X.heap.size := HBX.out.size
  have HMX := Lib.hid (HM2.out.below hbX2)
  have HRX := Lib.hid (HROW.out.below hbX)
  have X9 := Lib.hid x9
  have HSM := Lib.hid (fun W (hW : Below X.heap.size X W) => same_any _ g bs k rs S a n c bs gl k rs S (adv a c (num bs 4 4)) (n - num bs 4 4) (c - num bs 4 4) a' rs.length c' W (HMX.out.below hW) (HH.out.below (HBX.out.trans (hW.mono hwX))) HL.out (by omega) HOK.out hk rfl (Alike.refl bs S k))
  have HCM := Lib.hid (fun (i : Int) (hi : -9223372036854775808 ≤ i ∧ i ≤ 9223372036854775807) W (hW : Below X.heap.size X W) => class_any _ g bs k rs S i W (HMX.out.below hW) (HOK.out.lk.fit hg2 (.inl rfl)) hi)
  have HAD := Lib.hid (show Has X (adv a c (num bs 4 4)) (bytesV (bs.drop (num bs 4 4))) from by rw [← bytesV_drop]; exact (HH.out.below HBX.out).adv c _ (by rw [bytesV_length, HL.out]; exact hn))
  have HRC := Lib.hid (fun (i : Int) (hi : -9223372036854775808 ≤ i ∧ i ≤ 9223372036854775807) W (hW : Below X.heap.size X W) => (refcls_any a n c (num bs 0 4) (num bs 8 4) (num bs 12 4) S (needE bs S) k (adv a c (num bs 4 4)) (n - num bs 4 4) (c - num bs 4 4) (bs.drop (num bs 4 4)) a' c' rs i W (HAD.out.below hW) (by rw [List.length_drop, HL.out]) (by omega) (HRX.out.below hW) (by have := (HOK.out.lk.rows.each hg2 (.inl rfl)).1; omega) (by have := HOK.out.lk.fitG hg2 (.inl rfl); rwa [List.length_drop, HL.out] at this) HOK.out.cls.2 hi).mono (R' := fun e w' => e = .returned (.int .i64 (classM bs rs i : Nat)) ∧ Below W.heap.size W w') (by
    rintro e w' ⟨he, hb⟩
    exact ⟨by rw [he, classG_M bs rs HOK.out.lk hg2], hb⟩))
  unfold mrefA at HSM HRC x9
  generalize num bs 0 4 = P0 at *
  generalize num bs 4 4 = P4 at *
  generalize num bs 8 4 = P8 at *
  generalize num bs 12 4 = P12 at *
  generalize needE bs S = NE at *
  generalize adv a c P4 = A4 at *
  generalize rs.length = L at *
  have q9 := fun o => cell_of_heap x9 o
  have f9 := fun o => froz_of_heap x9 o
  have l9 := (Array.getElem?_eq_some_iff.1 x9).1
  generalize classM bs rs = cM at *
  clear hX hXe x9 hbX hbX2 hb1 hb2 hb3 h1c h1f h2c h2f HM2 HROW HMS HRF HAD
  have HID := Lib.hid hid
  refine wp_region_tree (.step 0 (.step 1 (.step 2 (.step 3 (.step 4 (.step 5 (.step 6 (.step 7 (.step 8 (.step 9 (.narrow (.step 10 (.step 11 (.step 12 (.step 13 (.step 14 (.step 16 (.step 17 (.step 15 (.narrow (.step 18 (.narrow (.step 19 (.step 20 .nil)))))))))))))))))))))))) (by kernel_rfl) (by kernel_rfl) (by kernel_rfl) (by kernel_rfl) (by intro _ _ d_ _ _ h_; cases d_ <;> first | exact h_ | (dsimp +zetaDelta only at h_ ⊢; exact h_)) (fun w' => ∃ p : Wld X [], w' = p.val) (wld_start _ _) ?_
  have hG_ := @wldC X
  (refine tree_quiet (by simp only [List.getElem?_toArray, List.getElem?_cons_succ, List.getElem?_cons_zero]; rfl) (by rfl) (by rfl) (fun K_ hK_ => ?_); go_big_quiet_op; refine hK_ _ ?_; clear hK_ K_)
  (refine tree_quiet (by simp only [List.getElem?_toArray, List.getElem?_cons_succ, List.getElem?_cons_zero]; rfl) (by rfl) (by rfl) (fun K_ hK_ => ?_); go_big_quiet_op; refine hK_ _ ?_; clear hK_ K_)
  (refine tree_quiet (by simp only [List.getElem?_toArray, List.getElem?_cons_succ, List.getElem?_cons_zero]; rfl) (by rfl) (by rfl) (fun K_ hK_ => ?_); go_big_quiet_op; refine hK_ _ ?_; clear hK_ K_)
  (refine tree_quiet (by simp only [List.getElem?_toArray, List.getElem?_cons_succ, List.getElem?_cons_zero]; rfl) (by rfl) (by rfl) (fun K_ hK_ => ?_); go_big_quiet_op; refine hK_ _ ?_; clear hK_ K_)
  (refine tree_quiet (by simp only [List.getElem?_toArray, List.getElem?_cons_succ, List.getElem?_cons_zero]; rfl) (by rfl) (by rfl) (fun K_ hK_ => ?_); go_big_quiet_op; refine hK_ _ ?_; clear hK_ K_)
  (refine tree_quiet (by simp only [List.getElem?_toArray, List.getElem?_cons_succ, List.getElem?_cons_zero]; rfl) (by rfl) (by rfl) (fun K_ hK_ => ?_); go_big_quiet_op; refine hK_ _ ?_; clear hK_ K_)
  (refine tree_quiet (by simp only [List.getElem?_toArray, List.getElem?_cons_succ, List.getElem?_cons_zero]; rfl) (by rfl) (by rfl) (fun K_ hK_ => ?_); go_big_quiet_op; refine hK_ _ ?_; clear hK_ K_)
  (refine tree_quiet (by simp only [List.getElem?_toArray, List.getElem?_cons_succ, List.getElem?_cons_zero]; rfl) (by rfl) (by rfl) (fun K_ hK_ => ?_); go_big_quiet_op; refine hK_ _ ?_; clear hK_ K_)
  (refine tree_quiet (by simp only [List.getElem?_toArray, List.getElem?_cons_succ, List.getElem?_cons_zero]; rfl) (by rfl) (by rfl) (fun K_ hK_ => ?_); go_big_quiet_op; refine hK_ _ ?_; clear hK_ K_)
  (refine tree_run (by simp only [List.getElem?_toArray, List.getElem?_cons_succ, List.getElem?_cons_zero]; rfl) (by rfl) (by rfl) (fun K_ hK_ => ?_); have HK_ := Lib.hid hK_; clear hK_; go_wp2_with (first | (go_at_call 9; (with_reducible refine (HSM.out _ (by exact blw)).mono ?_); rintro e w4 ⟨rfl, hb4⟩; have h4c := bc hb4; have h4f := bf hb4; have h4z := hb4.size; (try simp only [World.size_alloc, World.size_drew] at h4z); have h4l : w3.heap.size < w4.heap.size := by omega) | (go_at_call 10; (with_reducible refine (HCM.out _ HID.out _ (by exact blw)).mono ?_); rintro e w5 ⟨rfl, hb5⟩; have h5c := bc hb5; have h5f := bf hb5; have h5z := hb5.size; (try simp only [World.size_alloc, World.size_drew] at h5z); have h5l : w3.heap.size < w5.heap.size := by omega) | (go_at_call 11; (with_reducible refine (HRC.out _ HID.out _ (by exact blw)).mono ?_); rintro e w6 ⟨rfl, hb6⟩; have h6c := bc hb6; have h6f := bf hb6; have h6z := hb6.size; (try simp only [World.size_alloc, World.size_drew] at h6z); have h6l : w3.heap.size < w6.heap.size := by omega)); refine HK_.out _ _ (wld_ofA) ?_; clear HK_)
  refine tree_move (by repeat (first | with_reducible exact same_below (brefl _) | with_reducible exact same_below (bdrew1 (brefl _)) | with_reducible assumption | with_reducible refine same_drew ?_ | (with_reducible refine same_set ?_ (by first | (left; simp; done) | (right; simp; done) | (right; simp; omega)) _) | with_reducible refine same_then ?_ (by assumption) | with_reducible refine same_alloc ?_ _ | exact same_below (brefl _) | exact same_realloc (by simp) | exact same_below (bdrew1 (brefl _)) | assumption | refine same_drew ?_ | refine same_then ?_ (by assumption) | refine same_alloc ?_ _ | (refine same_set ?_ (by first | (left; simp; done) | (right; simp; done) | (right; simp; omega)) _))) ?_; clear hG_; intro hG_
  (refine tree_quiet (by simp only [List.getElem?_toArray, List.getElem?_cons_succ, List.getElem?_cons_zero]; rfl) (by rfl) (by rfl) (fun K_ hK_ => ?_); go_big_quiet_op; refine hK_ _ ?_; clear hK_ K_)
  (refine tree_quiet (by simp only [List.getElem?_toArray, List.getElem?_cons_succ, List.getElem?_cons_zero]; rfl) (by rfl) (by rfl) (fun K_ hK_ => ?_); go_big_quiet_op; refine hK_ _ ?_; clear hK_ K_)
  (refine tree_quiet (by simp only [List.getElem?_toArray, List.getElem?_cons_succ, List.getElem?_cons_zero]; rfl) (by rfl) (by rfl) (fun K_ hK_ => ?_); go_big_quiet_op; refine hK_ _ ?_; clear hK_ K_)
  (refine tree_quiet (by simp only [List.getElem?_toArray, List.getElem?_cons_succ, List.getElem?_cons_zero]; rfl) (by rfl) (by rfl) (fun K_ hK_ => ?_); go_big_quiet_op; refine hK_ _ ?_; clear hK_ K_)
  (refine tree_quiet (by simp only [List.getElem?_toArray, List.getElem?_cons_succ, List.getElem?_cons_zero]; rfl) (by rfl) (by rfl) (fun K_ hK_ => ?_); go_big_quiet_op; refine hK_ _ ?_; clear hK_ K_)
  (refine tree_quiet (by simp only [List.getElem?_toArray, List.getElem?_cons_succ, List.getElem?_cons_zero]; rfl) (by rfl) (by rfl) (fun K_ hK_ => ?_); go_big_quiet_op; refine hK_ _ ?_; clear hK_ K_)
  (refine tree_quiet (by simp only [List.getElem?_toArray, List.getElem?_cons_succ, List.getElem?_cons_zero]; rfl) (by rfl) (by rfl) (fun K_ hK_ => ?_); go_big_quiet_op; refine hK_ _ ?_; clear hK_ K_)
  (refine tree_run (by simp only [List.getElem?_toArray, List.getElem?_cons_succ, List.getElem?_cons_zero]; rfl) (by rfl) (by rfl) (fun K_ hK_ => ?_); have HK_ := Lib.hid hK_; clear hK_; go_wp2_with (first | (go_at_call 9; (with_reducible refine (HSM.out _ (by exact blw)).mono ?_); rintro e w4 ⟨rfl, hb4⟩; have h4c := bc hb4; have h4f := bf hb4; have h4z := hb4.size; (try simp only [World.size_alloc, World.size_drew] at h4z); have h4l : w3.heap.size < w4.heap.size := by omega) | (go_at_call 10; (with_reducible refine (HCM.out _ HID.out _ (by exact blw)).mono ?_); rintro e w5 ⟨rfl, hb5⟩; have h5c := bc hb5; have h5f := bf hb5; have h5z := hb5.size; (try simp only [World.size_alloc, World.size_drew] at h5z); have h5l : w3.heap.size < w5.heap.size := by omega) | (go_at_call 11; (with_reducible refine (HRC.out _ HID.out _ (by exact blw)).mono ?_); rintro e w6 ⟨rfl, hb6⟩; have h6c := bc hb6; have h6f := bf hb6; have h6z := hb6.size; (try simp only [World.size_alloc, World.size_drew] at h6z); have h6l : w3.heap.size < w6.heap.size := by omega)); refine HK_.out _ _ (wld_ofA) ?_; clear HK_)
  refine tree_move (by repeat (first | with_reducible exact same_below (brefl _) | with_reducible exact same_below (bdrew1 (brefl _)) | with_reducible assumption | with_reducible refine same_drew ?_ | (with_reducible refine same_set ?_ (by first | (left; simp; done) | (right; simp; done) | (right; simp; omega)) _) | with_reducible refine same_then ?_ (by assumption) | with_reducible refine same_alloc ?_ _ | exact same_below (brefl _) | exact same_realloc (by simp) | exact same_below (bdrew1 (brefl _)) | assumption | refine same_drew ?_ | refine same_then ?_ (by assumption) | refine same_alloc ?_ _ | (refine same_set ?_ (by first | (left; simp; done) | (right; simp; done) | (right; simp; omega)) _))) ?_; clear hG_; intro hG_
  (refine tree_run (by simp only [List.getElem?_toArray, List.getElem?_cons_succ, List.getElem?_cons_zero]; rfl) (by rfl) (by rfl) (fun K_ hK_ => ?_); have HK_ := Lib.hid hK_; clear hK_; go_wp2_with (first | (go_at_call 9; (with_reducible refine (HSM.out _ (by exact blw)).mono ?_); rintro e w4 ⟨rfl, hb4⟩; have h4c := bc hb4; have h4f := bf hb4; have h4z := hb4.size; (try simp only [World.size_alloc, World.size_drew] at h4z); have h4l : w3.heap.size < w4.heap.size := by omega) | (go_at_call 10; (with_reducible refine (HCM.out _ HID.out _ (by exact blw)).mono ?_); rintro e w5 ⟨rfl, hb5⟩; have h5c := bc hb5; have h5f := bf hb5; have h5z := hb5.size; (try simp only [World.size_alloc, World.size_drew] at h5z); have h5l : w3.heap.size < w5.heap.size := by omega) | (go_at_call 11; (with_reducible refine (HRC.out _ HID.out _ (by exact blw)).mono ?_); rintro e w6 ⟨rfl, hb6⟩; have h6c := bc hb6; have h6f := bf hb6; have h6z := hb6.size; (try simp only [World.size_alloc, World.size_drew] at h6z); have h6l : w3.heap.size < w6.heap.size := by omega)); refine HK_.out _ _ (wld_ofA) ?_; clear HK_)
  refine tree_move (by repeat (first | with_reducible exact same_below (brefl _) | with_reducible exact same_below (bdrew1 (brefl _)) | with_reducible assumption | with_reducible refine same_drew ?_ | (with_reducible refine same_set ?_ (by first | (left; simp; done) | (right; simp; done) | (right; simp; omega)) _) | with_reducible refine same_then ?_ (by assumption) | with_reducible refine same_alloc ?_ _ | exact same_below (brefl _) | exact same_realloc (by simp) | exact same_below (bdrew1 (brefl _)) | assumption | refine same_drew ?_ | refine same_then ?_ (by assumption) | refine same_alloc ?_ _ | (refine same_set ?_ (by first | (left; simp; done) | (right; simp; done) | (right; simp; omega)) _))) ?_; clear hG_; intro hG_
  (refine tree_quiet (by simp only [List.getElem?_toArray, List.getElem?_cons_succ, List.getElem?_cons_zero]; rfl) (by rfl) (by rfl) (fun K_ hK_ => ?_); go_big_quiet_op; refine hK_ _ ?_; clear hK_ K_)
  (refine tree_quiet (by simp only [List.getElem?_toArray, List.getElem?_cons_succ, List.getElem?_cons_zero]; rfl) (by rfl) (by rfl) (fun K_ hK_ => ?_); go_big_quiet_op; refine hK_ _ ?_; clear hK_ K_)
  refine tree_nil ?_
  clear hG_
  have hb6' : Below X.heap.size X w6 := by exact blw
  have HB6 := Lib.hid hb6'
  have hz6 := hb6'.size
  clear hb4 hb5 hb6 hb6' h4c h4f h5c h5f h6c h6f h4l h5l h6l
  go_wp2_with fail
  go_loopw [11] (fun i wr => ∃ z : Int, -1 ≤ z ∧ z ≤ 40 ∧ i = .int .i64 z ∧ Below X.heap.size X wr) (fun i _ => (40 - intOf i).toNat)
  case atStart => exact ⟨-1, by omega, by omega, rfl, HB6.out⟩
  case round =>
    obtain ⟨z, hz1, hz2, rfl, hb⟩ := hrel
    have HBR := Lib.hid hb
    have x9 := (hb.block _ l9).trans X9.out
    have hzr := hb.size
    clear hb
    by_cases hlt : z < 40
    · have d : decide (z < 40) = true := by simpa using hlt
      have HZ := Lib.hid (show -9223372036854775808 ≤ z ∧ z ≤ 9223372036854775807 from by omega)
      unfold mrefA at x9
      have q9 := fun o => cell_of_heap x9 o
      have l9r := (Array.getElem?_eq_some_iff.1 x9).1
      clear x9
      go_wp2_with fail
      refine wp_region_tree (.step 0 (.step 1 (.step 3 (.step 4 (.step 2 (.narrow (.step 5 (.narrow (.step 6 .nil))))))))) (by kernel_rfl) (by kernel_rfl) (by kernel_rfl) (by kernel_rfl) (by intro _ _ d_ _ _ h_; cases d_ <;> first | exact h_ | (dsimp +zetaDelta only at h_ ⊢; exact h_)) (fun w' => ∃ p : Wld wr [], w' = p.val) (wld_start _ _) ?_
      have hG_ := @wldC wr
      (refine tree_quiet (by simp only [List.getElem?_toArray, List.getElem?_cons_succ, List.getElem?_cons_zero]; rfl) (by rfl) (by rfl) (fun K_ hK_ => ?_); go_big_quiet_op; refine hK_ _ ?_; clear hK_ K_)
      (refine tree_quiet (by simp only [List.getElem?_toArray, List.getElem?_cons_succ, List.getElem?_cons_zero]; rfl) (by rfl) (by rfl) (fun K_ hK_ => ?_); go_big_quiet_op; refine hK_ _ ?_; clear hK_ K_)
      (refine tree_quiet (by simp only [List.getElem?_toArray, List.getElem?_cons_succ, List.getElem?_cons_zero]; rfl) (by rfl) (by rfl) (fun K_ hK_ => ?_); go_big_quiet_op; refine hK_ _ ?_; clear hK_ K_)
      (refine tree_quiet (by simp only [List.getElem?_toArray, List.getElem?_cons_succ, List.getElem?_cons_zero]; rfl) (by rfl) (by rfl) (fun K_ hK_ => ?_); go_big_quiet_op; refine hK_ _ ?_; clear hK_ K_)
      (refine tree_run (by simp only [List.getElem?_toArray, List.getElem?_cons_succ, List.getElem?_cons_zero]; rfl) (by rfl) (by rfl) (fun K_ hK_ => ?_); have HK_ := Lib.hid hK_; clear hK_; go_wp2_with (first | (go_at_call 10; (with_reducible refine (HCM.out _ HZ.out _ (HBR.out.trans (Below.mono (w := wr) (by exact blw) hzr))).mono ?_); rintro e w7 ⟨rfl, hb7⟩; have h7c := bc hb7; have h7f := bf hb7; have h7z := hb7.size; (try simp only [World.size_alloc, World.size_drew] at h7z); have h7l : w3.heap.size < w7.heap.size := by omega) | (go_at_call 11; (with_reducible refine (HRC.out _ HZ.out _ (HBR.out.trans (Below.mono (w := wr) (by exact blw) hzr))).mono ?_); rintro e w8 ⟨rfl, hb8⟩; have h8c := bc hb8; have h8f := bf hb8; have h8z := hb8.size; (try simp only [World.size_alloc, World.size_drew] at h8z); have h8l : w3.heap.size < w8.heap.size := by omega)); refine HK_.out _ _ (wld_ofA) ?_; clear HK_)
      refine tree_move (by repeat (first | with_reducible exact same_below (brefl _) | with_reducible exact same_below (bdrew1 (brefl _)) | with_reducible assumption | with_reducible refine same_drew ?_ | (with_reducible refine same_set ?_ (by first | (left; simp; done) | (right; simp; done) | (right; simp; omega)) _) | with_reducible refine same_then ?_ (by assumption) | with_reducible refine same_alloc ?_ _ | exact same_below (brefl _) | exact same_realloc (by simp) | exact same_below (bdrew1 (brefl _)) | assumption | refine same_drew ?_ | refine same_then ?_ (by assumption) | refine same_alloc ?_ _ | (refine same_set ?_ (by first | (left; simp; done) | (right; simp; done) | (right; simp; omega)) _))) ?_; clear hG_; intro hG_
      (refine tree_run (by simp only [List.getElem?_toArray, List.getElem?_cons_succ, List.getElem?_cons_zero]; rfl) (by rfl) (by rfl) (fun K_ hK_ => ?_); have HK_ := Lib.hid hK_; clear hK_; go_wp2_with (first | (go_at_call 10; (with_reducible refine (HCM.out _ HZ.out _ (HBR.out.trans (Below.mono (w := wr) (by exact blw) hzr))).mono ?_); rintro e w7 ⟨rfl, hb7⟩; have h7c := bc hb7; have h7f := bf hb7; have h7z := hb7.size; (try simp only [World.size_alloc, World.size_drew] at h7z); have h7l : w3.heap.size < w7.heap.size := by omega) | (go_at_call 11; (with_reducible refine (HRC.out _ HZ.out _ (HBR.out.trans (Below.mono (w := wr) (by exact blw) hzr))).mono ?_); rintro e w8 ⟨rfl, hb8⟩; have h8c := bc hb8; have h8f := bf hb8; have h8z := hb8.size; (try simp only [World.size_alloc, World.size_drew] at h8z); have h8l : w3.heap.size < w8.heap.size := by omega)); refine HK_.out _ _ (wld_ofA) ?_; clear HK_)
      refine tree_move (by repeat (first | with_reducible exact same_below (brefl _) | with_reducible exact same_below (bdrew1 (brefl _)) | with_reducible assumption | with_reducible refine same_drew ?_ | (with_reducible refine same_set ?_ (by first | (left; simp; done) | (right; simp; done) | (right; simp; omega)) _) | with_reducible refine same_then ?_ (by assumption) | with_reducible refine same_alloc ?_ _ | exact same_below (brefl _) | exact same_realloc (by simp) | exact same_below (bdrew1 (brefl _)) | assumption | refine same_drew ?_ | refine same_then ?_ (by assumption) | refine same_alloc ?_ _ | (refine same_set ?_ (by first | (left; simp; done) | (right; simp; done) | (right; simp; omega)) _))) ?_; clear hG_; intro hG_
      (refine tree_quiet (by simp only [List.getElem?_toArray, List.getElem?_cons_succ, List.getElem?_cons_zero]; rfl) (by rfl) (by rfl) (fun K_ hK_ => ?_); go_big_quiet_op; refine hK_ _ ?_; clear hK_ K_)
      refine tree_nil ?_
      clear hG_
      have HB8 := Lib.hid (HBR.out.trans (Below.mono (show Below wr.heap.size wr w8 from by exact blw) hzr))
      clear hb7 hb8 h7c h7f h8c h8f h7l h8l
      go_wp2_with fail
      go_roundw
      case rel => exact ⟨z + 1, by omega, by omega, rfl, HB8.out⟩
      case measure => simp [intOf]; omega
    · have d : decide (z < 40) = false := by simpa using hlt
      clear x9
      go_wp2_with fail
      go_ret
      exact ⟨rfl, HBX.out.trans (HBR.out.mono hwX)⟩

open Go.ChangeShapes Go.WideShapes Go.ChangeAt Go.RowKit
open Go.ChangeMaps (open_string shut_string)

set_option maxRecDepth 100000 in
theorem stateReads_walks (H : Type) (enc : TypeId × Value → H) : Walks H enc 3 [22, 23, 3] := by
  intro W base args ds p hval hA _
  obtain ⟨v0, vs0, d0, ds0, p0, q0, hargs, rfl, rfl, h0, r0⟩ := trodAll_cons hA
  obtain ⟨v1, vs1, d1, ds1, p1, q1, rfl, rfl, rfl, h1, r1⟩ := trodAll_cons r0
  obtain ⟨v2, vs2, d2, ds2, p2, q2, rfl, rfl, rfl, h2, r2⟩ := trodAll_cons r1
  obtain ⟨rfl, rfl, rfl⟩ := trodAll_nil r2
  obtain rfl : args = #[v0, v1, v2] := by cases args; simp_all
  obtain ⟨a0, n0, c0, x0, rfl, e0, f0, g0, j0, k0⟩ := open_bytes Try.underlying22 Try.underlying5 (by kernel_rfl) (hval 0 22 v0 rfl rfl) h0
  obtain ⟨zs1, rfl, l1, t1⟩ := open_array Try.underlying23 Try.underlying3 (by kernel_rfl) (by kernel_rfl) (hval 1 23 v1 rfl rfl) h1
  obtain ⟨z1a, z1b, rfl⟩ : ∃ z1a z1b, zs1 = [z1a, z1b] := by match zs1, l1 with | [ya, yb], _ => exact ⟨ya, yb, rfl⟩
  obtain ⟨z2, rfl, t2⟩ := open_int Try.underlying3 (hval 2 3 v2 rfl rfl) h2
  exact stateReads_walk a0 n0 c0 x0 z1a z1b z2 W e0 f0 g0 j0 (wf_i64 (t1 z1a (by simp))) (wf_i64 (t1 z1b (by simp))) (wf_i64 t2)

set_option maxRecDepth 100000 in
theorem stateReads_lifted (os : Os) (started : os.Started) (H : Type) (enc : TypeId × Value → H) :
    ReturnsInHanded {} Try.checked os 3 .any (Rows.stateReadsSpec.pre6 enc Try.prog Try.f3 Rows.stateReadsRow.domain false) (Rows.stateReadsSpec.post enc Try.prog Try.f3 false true false false) :=
  lift_law (s := Rows.stateReadsSpec) (fn := Try.f3) started (by kernel_rfl) Try.func3
    (ChangeSpec.witness6 (enc := enc) (C := Try.checked) false ⟨#[], #[.slice none 0 0, .agg #[.int .i64 0, .int .i64 0], .int .i64 0], []⟩ 8 (by kernel_rfl) (by kernel_rfl) (by kernel_rfl) (by kernel_rfl))
    rfl rfl (fun ds h => by match ds, h with | [d0, d1, d2], _ => rfl) (by intro t ht; simp [Try.params3] at ht; first | (subst ht; exact ⟨by kernel_rfl, of_decide_eq_true (by kernel_rfl)⟩) | (obtain rfl | rfl := ht <;> exact ⟨by kernel_rfl, of_decide_eq_true (by kernel_rfl)⟩) | (obtain rfl | rfl | rfl := ht <;> exact ⟨by kernel_rfl, of_decide_eq_true (by kernel_rfl)⟩) | (obtain rfl | rfl | rfl | rfl := ht <;> exact ⟨by kernel_rfl, of_decide_eq_true (by kernel_rfl)⟩))
    (by rw [Try.params3]; exact stateReads_walks H enc)
theorem stateReads_over : Rows.stateReadsRow.holds Try.pinned (OpenSpec.ofChange Rows.stateReadsSpec) :=
  OpenClaim.holds_of_wide 3 Try.f3 rfl rfl rfl rfl rfl rfl rfl ⟨rfl, rfl, rfl, rfl, rfl⟩ rfl rfl rfl rfl rfl (by kernel_rfl) Try.func3 (by kernel_rfl)
    (of_decide_eq_true (by kernel_rfl)) (by unfold Func.isWrapper; first | (rw [if_pos (by decide +kernel)]; kernel_rfl) | (rw [if_neg (by decide +kernel)]; exact ⟨rfl, rfl⟩))
    (fun os started H enc _ => stateReads_lifted os started H enc)
theorem stateReads_proved : Rows.StateReadsSaid := stateReads_over
#print axioms stateReads_proved
end Go.Proofs.Ytlkbadomklefmaa
