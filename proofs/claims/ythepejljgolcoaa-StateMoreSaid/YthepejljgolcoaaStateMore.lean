
/- What lies behind a machine's bytes changes nothing; the walk of StateMore. Conditions: as each says. -/
import Derived.Test.YthepejljgolcoaaMPlan
namespace Go.Proofs.Ythepejljgolcoaa
open Go.RowKit Go.Lib

theorem needL_congr {f g : Nat → Nat} : ∀ n, (∀ i, i < n → f i = g i) → needL f n = needL g n := by
  intro n
  induction n with
  | zero => intro _; rfl
  | succ n ih =>
    intro h
    rw [needL_succ, needL_succ, ih (fun i hi => h i (by omega)), h n (by omega)]
/-- Bytes of a machine, moved by d, with others behind. -/
structure Moved (b b' : List UInt8) (d : Nat) : Prop where
  cls : num b' 0 4 = num b 0 4
  rows : num b' 8 4 = num b 8 4 + d
  ents : num b' 12 4 = num b 12 4 + d
  r16 : 16 ≤ num b 8 4
  e16 : 16 ≤ num b 12 4
  len : b.length + d ≤ b'.length
  same : ∃ X, b'.drop (16 + d) = b.drop 16 ++ X
theorem Moved.at_ {b b' : List UInt8} {d : Nat} (h : Moved b b' d) (p s : Nat) (hp : 16 ≤ p) (hs : p + s ≤ b.length) : num b' (p + d) s = num b p s := by
  obtain ⟨X, hX⟩ := h.same
  have h1 := num_dropS b' (16 + d) (p - 16) s
  rw [show 16 + d + (p - 16) = p + d by omega] at h1
  rw [← h1, hX, numL _ _ _ _ (by rw [List.length_drop]; omega), num_dropS, show 16 + (p - 16) = p by omega]
theorem Moved.ent {b b' : List UInt8} {d : Nat} (h : Moved b b' d) (i : Nat) (hi : num b 8 4 + 2 * i + 2 ≤ b.length) : entN b' i = entN b i := by
  unfold entN
  rw [h.rows, show num b 8 4 + d + 2 * i = num b 8 4 + 2 * i + d by omega]
  exact h.at_ _ _ (by have := h.r16; omega) (by omega)
theorem Moved.fld {b b' : List UInt8} {d : Nat} (h : Moved b b' d) (q : Nat) (hi : num b 12 4 + q + 2 ≤ b.length) : num (b'.drop (num b' 12 4)) q 2 = num (b.drop (num b 12 4)) q 2 := by
  rw [num_drop, num_drop, h.ents, show num b 12 4 + d + q = num b 12 4 + q + d by omega]
  exact h.at_ _ _ (by have := h.e16; omega) (by omega)
theorem Moved.next {b b' : List UInt8} {d k : Nat} (h : Moved b b' d) (j : Nat) (hi : num b 12 4 + (j + 1) * (4 + 2 * k) ≤ b.length) : nextN b' k j = nextN b k j := by
  have h1 := h.fld (j * (4 + 2 * k)) (by rw [Nat.succ_mul] at hi; omega)
  rwa [num_drop, num_drop] at h1
theorem MOk.moved {b b' : List UInt8} {glyphs k : Nat} {rs rs' : List RP} {S d : Nat} (h : MOk b glyphs k rs S) (hm : Moved b b' d) (h4 : num b' 4 4 ≤ b'.length) (hlk : LkOk (b'.drop (num b' 4 4)) glyphs 2 rs') : MOk b' glyphs k rs' S ∧ Alike b' S b S k := by
  have hS := h.fitS
  have hE := h.fitE
  have hr := h.rows
  have he := h.ents
  have hc := h.cls
  have hl := hm.len
  have hmul : ∀ S', S' ≤ S → S' * num b 0 4 ≤ S * num b 0 4 := fun S' hs => Nat.mul_le_mul_right _ hs
  have e2 : S * (2 * num b 0 4) = 2 * (S * num b 0 4) := by rw [Nat.mul_left_comm]
  have hE1 : ∀ S', S' ≤ S → needE b' S' = needE b S' := fun S' hs => by
    unfold needE
    rw [hm.cls]
    exact needL_congr _ fun i hi => hm.ent i (by have := hmul S' hs; omega)
  have hN1 : ∀ N, N ≤ needE b S → needS b' k N = needS b k N := fun N hN => by
    unfold needS
    exact needL_congr _ fun j hj => hm.next j (by
      have : (j + 1) * (4 + 2 * k) ≤ needE b S * (4 + 2 * k) := Nat.mul_le_mul_right _ (by omega)
      omega)
  have hcl : ∀ S', S' ≤ S → (MClosed b' k S' ↔ MClosed b k S') := fun S' hs => by
    unfold MClosed
    rw [hE1 S' hs, hN1 _ (needE_mono b hs)]
  refine ⟨⟨by have := h.len; omega, by rw [hm.cls]; exact hc, h4, hlk, by rw [hm.rows]; omega, by rw [hm.ents]; omega, ⟨(hcl S (Nat.le_refl _)).2 h.least.closed, fun S' hc' => ?_⟩, ?_, ?_⟩, ⟨hm.cls, rfl, hE1 S (Nat.le_refl _), ?_, ?_⟩⟩
  · rcases Nat.lt_or_ge S' S with g | g
    · exact h.least.least S' ((hcl S' (by omega)).1 hc')
    · exact g
  · rw [hm.cls, hm.rows]; omega
  · rw [hE1 S (Nat.le_refl _), hm.ents]; omega
  · intro j hj
    have hj2 : (j + 1) * (4 + 2 * k) ≤ needE b S * (4 + 2 * k) := Nat.mul_le_mul_right _ hj
    rw [Nat.succ_mul] at hj2
    unfold entA
    rw [hm.fld (j * (4 + 2 * k)) (by omega), hm.fld (j * (4 + 2 * k) + 2) (by omega)]
    have e4 : (if 0 < k then num (b'.drop (num b' 12 4)) (j * (4 + 2 * k) + 4) 2 else 0) = if 0 < k then num (b.drop (num b 12 4)) (j * (4 + 2 * k) + 4) 2 else 0 := by
      split
      · rw [hm.fld (j * (4 + 2 * k) + 4) (by omega)]
      · rfl
    have e6 : (if 1 < k then num (b'.drop (num b' 12 4)) (j * (4 + 2 * k) + 6) 2 else 0) = if 1 < k then num (b.drop (num b 12 4)) (j * (4 + 2 * k) + 6) 2 else 0 := by
      split
      · rw [hm.fld (j * (4 + 2 * k) + 6) (by omega)]
      · rfl
    rw [e4, e6]
  · intro i hi
    exact hm.ent i (by omega)
theorem plan_lk (cls : List UInt8) (Z : List UInt8) (h : cls.length ≤ 40) : LkOk (ofB cls ++ clsB cls ++ Z) 30 2 (rowsT 0 cls.length 6 2) := by
  have hl : (ofB cls).length = 6 := by simp [ofB, beN_length]
  have n0 : num (ofB cls ++ clsB cls ++ Z) 0 2 = 8 := by
    simp only [ofB, List.append_assoc]
    exact numB2 _ _ (by omega)
  have n2 : num (ofB cls ++ clsB cls ++ Z) 2 2 = 0 := by
    simp only [ofB, List.append_assoc]
    rw [numR _ _ 2 0 2 (by rw [beN_length])]
    exact numB2 _ _ (by omega)
  have n4 : num (ofB cls ++ clsB cls ++ Z) 4 2 = cls.length := by
    simp only [ofB, List.append_assoc]
    rw [numR _ _ 4 2 2 (by rw [beN_length]), numR _ _ 2 0 2 (by rw [beN_length])]
    exact numB2 _ _ (by omega)
  have hrw := LkRows.eight (bs := ofB cls ++ clsB cls ++ Z) (glyphs := 30) (size := 2) (by simp only [List.length_append]; omega) n0 (by omega)
  rw [n2, n4] at hrw
  refine ⟨hrw, ?_⟩
  by_cases h0 : cls.length = 0
  · unfold rowsT
    rw [if_pos h0]
    intro i r hr
    simp at hr
  · exact (ok_rowsT _ _ _ _ _ (by simp only [List.length_append]; omega)).2 (by simp only [List.length_append, clsB_length]; omega)
theorem plan_at (p : PlanL) (k room : Nat) (h : room ≤ 1000) : num (planB p k room) 4 4 = 16 + room := by
  simp only [planB, List.append_assoc]
  rw [numR _ _ 4 0 4 (by rw [beN_length]), numB4 _ _ (by omega)]
theorem plan_ents (p : PlanL) (k room : Nat) (h : 22 + room + 2 * p.cls.length + 2 * (p.rows.length * p.n) ≤ 65535) : num (planB p k room) 12 4 = 22 + room + 2 * p.cls.length + 2 * (p.rows.length * p.n) := by
  simp only [planB, List.append_assoc]
  rw [numR _ _ 12 8 4 (by rw [beN_length]), numR _ _ 8 4 4 (by rw [beN_length]), numR _ _ 4 0 4 (by rw [beN_length]), numB4 _ _ (by omega)]
  omega
theorem plan_drop (p : PlanL) (k room : Nat) : (planB p k room).drop (16 + room) = ofB p.cls ++ clsB p.cls ++ (rowsPB p.rows p.n ++ entsPB k p.ents) := by
  unfold planB
  rw [List.append_assoc _ (rowsPB p.rows p.n), List.append_assoc _ (ofB p.cls ++ clsB p.cls)]
  exact List.drop_left' (by simp only [List.length_append, beN_length, List.length_replicate])
theorem moved_more (p : PlanL) (ms : List UInt8) (hC : p.cls.length ≤ 40) (hR : p.rows.length * p.n ≤ 220) : Moved (planB p 2 0) (planB p 2 0 ++ ms) 0 := by
  have hl := planB_length p 2 0 (by omega)
  refine ⟨numL _ _ _ _ (by omega), numL _ _ _ _ (by omega), numL _ _ _ _ (by omega), by rw [plan_rows _ _ _ (by omega)]; omega, by rw [plan_ents _ _ _ (by omega)]; omega, by simp, ms, ?_⟩
  rw [List.drop_append_of_le_length (by omega)]
def PlanL.one (p : PlanL) : PlanL := { p with ents := p.ents ++ [(60000, 0, 0, 0)] }
theorem moved_one (p : PlanL) (hC : p.cls.length ≤ 40) (hR : p.rows.length * p.n ≤ 220) : Moved (planB p 2 0) (planB p.one 2 4) 4 := by
  have hl := planB_length p 2 0 (by omega)
  have hl1 := planB_length p.one 2 4 (by omega)
  have e1 : p.one.ents.length = p.ents.length + 1 := by simp [PlanL.one]
  have e2 : p.one.cls = p.cls := rfl
  have e3 : p.one.rows = p.rows := rfl
  have e4 : p.one.n = p.n := rfl
  rw [e1, e2, e3, e4] at hl1
  refine ⟨by rw [plan_cls, plan_cls, e4], ?_, ?_, by rw [plan_rows _ _ _ (by omega)]; omega, by rw [plan_ents _ _ _ (by omega)]; omega, by omega, entPB 2 (60000, 0, 0, 0), ?_⟩
  · rw [plan_rows _ _ _ (by rw [e2]; omega), plan_rows _ _ _ (by omega), e2]; omega
  · rw [plan_ents _ _ _ (by rw [e2, e3, e4]; omega), plan_ents _ _ _ (by omega), e2, e3, e4]; omega
  · rw [plan_drop, show (planB p 2 0).drop 16 = _ from plan_drop p 2 0, e2, e3, e4]
    simp [PlanL.one, entsPB]
theorem lk_more (p : PlanL) (ms : List UInt8) (hC : p.cls.length ≤ 40) : LkOk ((planB p 2 0 ++ ms).drop (num (planB p 2 0 ++ ms) 4 4)) 30 2 (rowsT 0 p.cls.length 6 2) ∧ num (planB p 2 0 ++ ms) 4 4 ≤ (planB p 2 0 ++ ms).length := by
  have hl := planB_length p 2 0 (by omega)
  have e : num (planB p 2 0 ++ ms) 4 4 = 16 := by rw [numL _ _ _ _ (by omega), plan_at _ _ _ (by omega)]
  rw [e]
  refine ⟨?_, by rw [List.length_append]; omega⟩
  have e2 : (planB p 2 0 ++ ms).drop 16 = ofB p.cls ++ clsB p.cls ++ (rowsPB p.rows p.n ++ entsPB 2 p.ents ++ ms) := by
    rw [List.drop_append_of_le_length (by omega), show (planB p 2 0).drop 16 = _ from plan_drop p 2 0]
    simp
  rw [e2]
  exact plan_lk _ _ hC
theorem lk_one (p : PlanL) (hC : p.cls.length ≤ 40) : LkOk ((planB p.one 2 4).drop (num (planB p.one 2 4) 4 4)) 30 2 (rowsT 0 p.cls.length 6 2) ∧ num (planB p.one 2 4) 4 4 ≤ (planB p.one 2 4).length := by
  have hl := planB_length p.one 2 4 (by omega)
  rw [plan_at _ _ _ (by omega)]
  refine ⟨?_, by omega⟩
  rw [show (planB p.one 2 4).drop (16 + 4) = _ from plan_drop p.one 2 4]
  exact plan_lk _ _ hC
theorem mread_either (a : Option Addr) (n c : Nat) (bs : List UInt8) (w : World) (h : Has w a (bytesV bs)) (hl : bs.length = n) (hn : n ≤ c) (hc : c ≤ maxLen) :
    Calls Try.prog 16 #[.slice a n c, .int .i64 30, .int .i64 2] w fun e w' => ∃ v x, e = .returned (.tuple #[v, .int .i64 x]) ∧ Below w.heap.size w w' := by
  refine (mread_any a n c bs 30 2 w h hl hn hc (by omega) (by omega)).mono ?_
  rintro e w' ⟨(⟨_, rfl⟩ | ⟨_, _, rfl⟩ | ⟨_, _, _, g, _, rfl, _⟩), hb⟩ <;> exact ⟨_, _, rfl, hb⟩
theorem has_join {w : World} {base n c : Nat} {a : Option Addr} {xs ys : List UInt8} (h : w.ownsRow base 5 1 (.slice a n c) n (bytesV xs ++ bytesV ys)) : Has w a (bytesV (xs ++ ys)) := by
  rw [bytesV_append]
  exact has_of_owns h
theorem entC4_one (l : List (Int × Int × Int × Int)) : ∀ u ∈ l.flatMap entC4, u.oneCell' = true := by
  intro u hu
  simp only [List.mem_flatMap, entC4, List.mem_cons, List.not_mem_nil, or_false] at hu
  obtain ⟨p, _, rfl | rfl | rfl | rfl⟩ := hu <;> rfl
theorem entC4_len (l : List (Int × Int × Int × Int)) : (l.flatMap entC4).length = l.length * 4 := by
  induction l with
  | nil => rfl
  | cons x l ih => simp only [List.flatMap_cons, List.length_append, List.length_cons, ih, entC4, List.length_nil]; omega
theorem notM_plan : notM fun _ t' => t' = 59 := ⟨fun _ => (by decide : ¬ ((99 : Nat) = 59)), fun _ => (by decide : ¬ ((32 : Nat) = 59)), fun _ => (by decide : ¬ ((63 : Nat) = 59)), fun _ => (by decide : ¬ ((97 : Nat) = 59)), fun _ => (by decide : ¬ ((82 : Nat) = 59)), fun _ => (by decide : ¬ ((110 : Nat) = 59)), fun _ => (by decide : ¬ ((80 : Nat) = 59))⟩
set_option maxRecDepth 100000 in
set_option maxHeartbeats 3200000 in
theorem stateMore_walk (p : PlanL) (aC aR aE : Option Addr) (rv : List Value) (cC cR cE : Nat) (am : Option Addr) (nm cm : Nat) (ms : List UInt8) (w : World) (h : PlanHas w p aC aR rv aE) (hwf : ∀ e ∈ p.ents, wfI e.1 ∧ wfI e.2.1 ∧ wfI e.2.2.1 ∧ wfI e.2.2.2) (hE0 : aE = none → cE = 0)
    (hm : Has w am (bytesV ms)) (hml : ms.length = nm) (hnm : nm ≤ cm) (hcm : cm ≤ maxLen) (hA : am = none → cm = 0) :
    Calls Try.prog 6 #[.agg #[.slice aC p.cls.length cC, .slice aR p.rows.length cR, .slice aE p.ents.length cE, .int .u8 (p.wide.toNat : Nat)], .slice am nm cm] w fun e w' => e = .returned (.bool true) ∧ Below w.heap.size w w' := by
  have hAC := allocC
  have hAF := allocF
  have HSP := Lib.hid (fun W => speaks7_any W)
  have hlen := planB_length p 2 0 (by omega)
  have hpn : p.n ≤ 11 := by unfold PlanL.n; omega
  have HP := Lib.hid h
  have HM := Lib.hid hm
  have HML := Lib.hid hml
  have HA := Lib.hid hA
  have HE0 := Lib.hid hE0
  have HWF := Lib.hid hwf
  obtain ⟨nB, hnB⟩ : ∃ nB, nB = (planB p 2 0).length := ⟨_, rfl⟩
  have hWR1 : ∀ W, Below w.heap.size w W → p.cls.length ≤ 40 ∧ p.rows.length ≤ 20 ∧ p.ents.length ≤ 40 → Calls Try.prog 22 #[.agg #[.slice aC p.cls.length cC, .slice aR p.rows.length cR, .slice aE p.ents.length cE, .int .u8 (p.wide.toNat : Nat)], .int .i64 2, .int .i64 0] W fun e w' => ∃ a' c', e = .returned (.slice a' nB c') ∧ w'.ownsRow W.heap.size 5 1 (.slice a' nB c') nB (bytesV (planB p 2 0)) ∧ nB ≤ c' ∧ c' ≤ maxLen ∧ (a' = none → c' = 0) ∧ Below W.heap.size W w' := by
    intro W hW hs
    subst hnB
    exact write_any p 2 0 2 0 rfl rfl aC aR aE rv cC cR cE W (h.below hW) (by omega) (by omega) (by omega) (by omega) (by omega) hwf
  obtain ⟨n3, hn3⟩ : ∃ n3, n3 = (planB p.one 2 4).length := ⟨_, rfl⟩
  have hlen3 := planB_length p.one 2 4 (by omega)
  have e1 : p.one.ents.length = p.ents.length + 1 := by simp [PlanL.one]
  have hWR2 : ∀ W a2 c2, Below w.heap.size w W → Has W a2 (p.ents.flatMap entC4 ++ entC4 (60000, 0, 0, 0)) → p.cls.length ≤ 40 ∧ p.rows.length ≤ 20 ∧ p.ents.length ≤ 40 → Calls Try.prog 22 #[.agg #[.slice aC p.cls.length cC, .slice aR p.rows.length cR, .slice a2 (p.ents.length + 1) c2, .int .u8 (p.wide.toNat : Nat)], .int .i64 2, .int .i64 4] W fun e w' => ∃ a' c', e = .returned (.slice a' n3 c') ∧ w'.ownsRow W.heap.size 5 1 (.slice a' n3 c') n3 (bytesV (planB p.one 2 4)) ∧ n3 ≤ c' ∧ c' ≤ maxLen ∧ (a' = none → c' = 0) ∧ Below W.heap.size W w' := by
    intro W a2 c2 hW h2 hs
    subst hn3
    have hp := h.below hW
    have hp1 : PlanHas W p.one aC aR rv a2 := ⟨hp.cls, hp.rows, hp.rlen, hp.row, by simpa [PlanL.one] using h2⟩
    have := write_any p.one 2 4 2 4 rfl rfl aC aR a2 rv cC cR c2 W hp1 (by show p.cls.length ≤ 1000; omega) (by show p.rows.length ≤ 1000; omega) (by rw [e1]; omega) (by omega) (by omega) (fun e he => by
      simp only [PlanL.one, List.mem_append, List.mem_singleton] at he
      rcases he with he | rfl
      · exact hwf e he
      · unfold wfI; simp)
    rw [e1] at this
    exact this
  rw [e1] at hlen3
  rw [← hn3] at hlen3
  rw [← hnB] at hlen
  have HL := Lib.hid hnB.symm
  have HL3 := Lib.hid hn3.symm
  have hmul : p.rows.length ≤ 20 → p.rows.length * p.n ≤ 20 * 11 := fun hr => Nat.mul_le_mul hr hpn
  have hmore : p.cls.length ≤ 40 → p.rows.length * p.n ≤ 220 → ∀ rs S, MOk (planB p 2 0) 30 2 rs S → MOk (planB p 2 0 ++ ms) 30 2 (rowsT 0 p.cls.length 6 2) S ∧ Alike (planB p 2 0 ++ ms) S (planB p 2 0) S 2 := fun hc hr rs S ho => ho.moved (moved_more p ms hc hr) (lk_more p ms hc).2 (lk_more p ms hc).1
  have hone : p.cls.length ≤ 40 → p.rows.length * p.n ≤ 220 → ∀ rs S, MOk (planB p 2 0) 30 2 rs S → MOk (planB p.one 2 4) 30 2 (rowsT 0 p.cls.length 6 2) S ∧ Alike (planB p.one 2 4) S (planB p 2 0) S 2 := fun hc hr rs S ho => ho.moved (moved_one p hc hr) (lk_one p hc).2 (lk_one p hc).1
  have h3e : p.one.cls.length = p.cls.length ∧ p.one.rows.length = p.rows.length ∧ p.one.n = p.n := ⟨rfl, rfl, rfl⟩
  rw [h3e.1, h3e.2.1, h3e.2.2] at hlen3
  have HEH := Lib.hid h.ents
  have HE4 := Lib.hid (entC4_len p.ents)
  have HE1 := Lib.hid (entC4_one p.ents)
  clear hnB hn3 h hwf e1 hm hml hA hE0 HP HWF h3e
  generalize planB p 2 0 = bs at *
  generalize planB p.one 2 4 = b3 at *
  generalize p.ents.flatMap entC4 = ec at *
  generalize p.cls.length = nC at *
  generalize p.rows.length = nR at *
  generalize p.ents.length = nE at *
  generalize p.wide.toNat = wy at *
  generalize p.n = nn at *
  by_cases hs : nC ≤ 40 ∧ nR ≤ 20 ∧ nE ≤ 40
  case neg =>
    have HSM := Lib.hid (fun W => small_no aC aR aE nC nR nE cC cR cE (wy : Int) W hs)
    clear hWR1 hWR2 hlen hlen3 hmul hmore hone hs
    go_enter Try.func6, Try.ntmps6
    go_wp2_with (first | (go_at_call 15; (with_reducible refine (HSP.out _).mono ?_); rintro e w1 ⟨rfl, hb1⟩; have h1c := bc hb1; have h1f := bf hb1; have h1z := hb1.size; try simp only [World.size_alloc, World.size_drew] at h1z) | (go_at_call 21; (with_reducible refine (HSM.out _).mono ?_); rintro e w2 ⟨rfl, hb2⟩; have h2c := bc hb2; have h2f := bf hb2; have h2z := hb2.size; try simp only [World.size_alloc, World.size_drew] at h2z))
    go_ret
    exact ⟨rfl, blw⟩
  have HSM := Lib.hid (fun W => small_yes aC aR aE nC nR nE cC cR cE (wy : Int) W hs)
  by_cases hbig : 200 < nm
  · have d1 : decide ((200 : Int) < (nm : Int)) = true := by simp; omega
    clear hWR1 hWR2 hlen hlen3 hmul hmore hone hs
    go_enter Try.func6, Try.ntmps6
    go_wp2_with (first | (go_at_call 15; (with_reducible refine (HSP.out _).mono ?_); rintro e w1 ⟨rfl, hb1⟩; have h1c := bc hb1; have h1f := bf hb1; have h1z := hb1.size; try simp only [World.size_alloc, World.size_drew] at h1z) | (go_at_call 21; (with_reducible refine (HSM.out _).mono ?_); rintro e w2 ⟨rfl, hb2⟩; have h2c := bc hb2; have h2f := bf hb2; have h2z := hb2.size; try simp only [World.size_alloc, World.size_drew] at h2z))
    go_ret
    exact ⟨rfl, blw⟩
  have d1 : decide ((200 : Int) < (nm : Int)) = false := by simp; omega
  have hn2 : nB ≤ 2000 ∧ n3 ≤ 2000 := by
    have := hmul hs.2.1
    omega
  have HMORE := Lib.hid (hmore hs.1 (hmul hs.2.1))
  have HONE := Lib.hid (hone hs.1 (hmul hs.2.1))
  have HW1 := Lib.hid (fun W hW => hWR1 W hW hs)
  have HW2 := Lib.hid (fun W a2 c2 hW h2 => hWR2 W a2 c2 hW h2 hs)
  have hnE := hs.2.2
  have hn1 : 0 < nB := by omega
  clear hWR1 hWR2 hlen hlen3 hmul hmore hone hs
  have hml2 : (bs ++ ms).length = nB + nm := by rw [List.length_append, HL.out, HML.out]
  have HL2 := Lib.hid hml2
  clear hml2
  go_enter Try.func6, Try.ntmps6
  go_wp2_with (first
    | (go_at_call 15; (with_reducible refine (HSP.out _).mono ?_); rintro e w1 ⟨rfl, hb1⟩; have h1c := bc hb1; have h1f := bf hb1; have h1z := hb1.size; try simp only [World.size_alloc, World.size_drew] at h1z)
    | (go_at_call 21; (with_reducible refine (HSM.out _).mono ?_); rintro e w2 ⟨rfl, hb2⟩; have h2c := bc hb2; have h2f := bf hb2; have h2z := hb2.size; try simp only [World.size_alloc, World.size_drew] at h2z)
    | (go_at_call 22; (with_reducible refine (HW1.out _ (by exact blw)).mono ?_); rintro e w3 ⟨a1, c1, rfl, hown, k11, k12, k13, hb3⟩; have HHb := Lib.hid (has_of_owns hown); have HOb := Lib.hid hown; have h3z := hb3.size; clear hown))
  have HB3 := Lib.hid (show Below w.heap.size w w3 from by exact blw)
  have z2 : w3.heap[w.heap.size]? = some (.cells #[.slice aC nC cC, .slice aR nR cR, .slice aE nE cE, .int .u8 (wy : Nat)] 59 (0, 0)) := (hb3.block w.heap.size (by omega)).trans ((hb2.block w.heap.size (by omega)).trans ((hb1.block w.heap.size (by simp)).trans (by rw [heap_push, if_pos rfl])))
  have Z2 := Lib.hid z2
  have hw3 : w.heap.size < w3.heap.size := (Array.getElem?_eq_some_iff.1 z2).1
  have hA1 : ∃ p1, a1 = some p1 ∧ p1.block ≠ w.heap.size := by
    obtain ⟨g, cs, u, ha, hg, _⟩ := row_at HOb.out 0 (by omega)
    exact ⟨_, ha, by show g ≠ w.heap.size; omega⟩
  have HA1 := Lib.hid hA1
  clear hA1 z2 hb1 hb2 hb3 h1c h1f h1z h2c h2f h2z h3z HSM HSP HOb
  by_cases hok : ∃ rs S, MOk bs 30 2 rs S
  case neg =>
    refine (mread_none a1 nB c1 bs 30 2 30 2 rfl rfl w3 HHb.out HL.out k11 k12 (by decide) (by decide) (by decide) (fun rs S hr => hok ⟨rs, S, hr⟩)).mono ?_
    rintro e w4 ⟨rfl, hb4⟩
    have HB4 := Lib.hid (HB3.out.trans (hb4.mono (by omega)))
    have HH4 := Lib.hid (HHb.out.below hb4)
    have hw4 := hb4.size
    clear hb4 hok
    go_wp2_with (first
      | (at_builtin; refine wpApp rfl _ _ 22 rfl w4.heap.size 5 (.int .u8 0) 1 1 Try.underlying22 u8_info rfl (by decide) _ 0 [] rfl (World.ownsRow_lit w4 #[] 0 (Nat.le_refl _) (by decide) rfl) a1 nB c1 (bytesV bs) rfl (by rw [bytesV_length, HL.out]; omega) (HH4.out.below (balloc (brefl w4) _)) k13 (bytesV_one bs) (by unfold maxLen; omega) (by omega) (by simp) ?_; intro a5 c5 w5 hown5 k51 k52 k53 hb5 hg5; rw [Nat.zero_add] at *; have HO5 := Lib.hid hown5; have HB5 := Lib.hid ((balloc (brefl w4) (.cells #[] 5)).trans hb5); have hz5 : w4.heap.size ≤ w5.heap.size := HB5.out.size; clear hown5 hg5 k53 hb5)
      | (at_builtin; refine wpApp rfl _ _ 22 rfl w4.heap.size 5 (.int .u8 0) 1 1 Try.underlying22 u8_info rfl (by decide) _ nB ([] ++ bytesV bs) rfl HO5.out am nm cm (bytesV ms) rfl (by rw [bytesV_length, HML.out]; omega) (HM.out.below (HB4.out.trans (HB5.out.mono (by omega)))) HA.out (bytesV_one ms) (by unfold maxLen; omega) (by omega) hz5 ?_; intro a6 c6 w6 hown6 k61 k62 k63 hb6 hg6; rw [List.nil_append] at hown6; have HH6 := Lib.hid (has_join hown6); have HB6 := Lib.hid (HB5.out.trans hb6); have hz6 : w4.heap.size ≤ w6.heap.size := HB6.out.size; clear hown6 hg6 k63 hb6)
      | (go_at_call 16; (with_reducible refine (mread_either a6 (nB + nm) c6 (bs ++ ms) w6 HH6.out HL2.out k61 k62).mono ?_); rintro e w7 ⟨v7, x7, rfl, hb7⟩; have HB7 := Lib.hid (HB6.out.trans (hb7.mono hz6)); clear hb7))
    go_ret
    exact ⟨rfl, HB4.out.trans (HB7.out.mono (by omega))⟩
  obtain ⟨rs, S, hok⟩ := hok
  obtain ⟨hok2, hal2⟩ := HMORE.out rs S hok
  obtain ⟨hok3, hal3⟩ := HONE.out rs S hok
  have HOK := Lib.hid hok
  have HOK2 := Lib.hid hok2
  have HOK3 := Lib.hid hok3
  have HAL2 := Lib.hid hal2
  have HAL3 := Lib.hid hal3
  clear hok hok2 hok3 hal2 hal3 HMORE HONE
  refine (mread_some a1 nB c1 bs 30 2 30 2 rfl rfl rs S w3 HHb.out HL.out k11 k12 (by decide) (by decide) (by decide) HOK.out).mono ?_
  rintro e w4 ⟨g1, rfl, hM1, hb4⟩
  have HB4 := Lib.hid (HB3.out.trans (hb4.mono (by omega)))
  have HM1 := Lib.hid hM1
  have HH4 := Lib.hid (HHb.out.below hb4)
  have Z4 := Lib.hid ((hb4.block _ hw3).trans Z2.out)
  have hw4 := hb4.size
  clear hb4 hM1
  go_wp2_with (first
    | (at_builtin; refine wpApp rfl _ _ 22 rfl w4.heap.size 5 (.int .u8 0) 1 1 Try.underlying22 u8_info rfl (by decide) _ 0 [] rfl (World.ownsRow_lit w4 #[] 0 (Nat.le_refl _) (by decide) rfl) a1 nB c1 (bytesV bs) rfl (by rw [bytesV_length, HL.out]; omega) (HH4.out.below (balloc (brefl w4) _)) k13 (bytesV_one bs) (by unfold maxLen; omega) (by omega) (by simp) ?_; intro a5 c5 w5 hown5 k51 k52 k53 hb5 hg5; rw [Nat.zero_add] at *; have HO5 := Lib.hid hown5; have HB5 := Lib.hid ((balloc (brefl w4) (.cells #[] 5)).trans hb5); have hz5 : w4.heap.size ≤ w5.heap.size := HB5.out.size; clear hown5 hg5 k53 hb5)
    | (at_builtin; refine wpApp rfl _ _ 22 rfl w4.heap.size 5 (.int .u8 0) 1 1 Try.underlying22 u8_info rfl (by decide) _ nB ([] ++ bytesV bs) rfl HO5.out am nm cm (bytesV ms) rfl (by rw [bytesV_length, HML.out]; omega) (HM.out.below (HB4.out.trans (HB5.out.mono (by omega)))) HA.out (bytesV_one ms) (by unfold maxLen; omega) (by omega) hz5 ?_; intro a6 c6 w6 hown6 k61 k62 k63 hb6 hg6; rw [List.nil_append] at hown6; have HH6 := Lib.hid (has_join hown6); have HB6 := Lib.hid (HB5.out.trans hb6); have hz6 : w4.heap.size ≤ w6.heap.size := HB6.out.size; clear hown6 hg6 k63 hb6)
    | (go_at_call 16; (with_reducible refine (mread_some a6 (nB + nm) c6 (bs ++ ms) 30 2 30 2 rfl rfl (rowsT 0 nC 6 2) S w6 HH6.out HL2.out k61 k62 (by decide) (by decide) (by decide) HOK2.out).mono ?_); rintro e w7 ⟨g2, rfl, hM2, hb7⟩; have HM2 := Lib.hid hM2; have HB7 := Lib.hid (HB6.out.trans (hb7.mono hz6)); have hz7 : w4.heap.size ≤ w7.heap.size := HB7.out.size; have z7 := (HB7.out.block w.heap.size (by omega)).trans Z4.out; have q7 := fun o => cell_of_heap z7 o; have l7 := (Array.getElem?_eq_some_iff.1 z7).1; have f7 := fun o => froz_of_heap z7 o; have Z7 := Lib.hid z7; have HBW7 := Lib.hid (HB4.out.trans (HB7.out.mono (by omega))); have hw7 : w.heap.size < w7.heap.size := l7; clear hb7 hM2 z7)
    | (at_builtin; refine wpApp rfl _ _ 57 rfl w7.heap.size 63 (.agg #[.int .i64 0, .int .i64 0, .int .i64 0, .int .i64 0]) 4 32 Try.underlying57 info_entry rfl (by decide) _ 0 [] rfl (World.ownsRow_lit w7 #[] 0 (Nat.le_refl _) (by decide) rfl) aE nE cE ec rfl HE4.out (HEH.out.below (HBW7.out.trans ((balloc (brefl w7) _).mono (Nat.le_of_lt hw7)))) HE0.out HE1.out (by unfold maxLen; omega) (by omega) (by simp) ?_; intro a8 c8 w8 hown8 k81 k82 k83 hb8 hg8; rw [Nat.zero_add] at *; have HO8 := Lib.hid hown8; have HB8 := Lib.hid ((balloc (brefl w7) (.cells #[] 63)).trans hb8); have hz8 : w7.heap.size ≤ w8.heap.size := HB8.out.size; clear hown8 hg8 k83 hb8)
    | (at_builtin; refine wpApp rfl _ _ 57 rfl w7.heap.size 63 (.agg #[.int .i64 0, .int .i64 0, .int .i64 0, .int .i64 0]) 4 32 Try.underlying57 info_entry rfl (by decide) _ nE ([] ++ ec) rfl (owns_below HO8.out (balloc (brefl w8) _) (Nat.le_refl _)) (some ⟨w8.heap.size, 0, none⟩) 1 1 [.int .i64 60000, .int .i64 0, .int .i64 0, .int .i64 0] rfl rfl (has_alloc _ _ _) (fun h => by cases h) (fun u hu => by simp at hu; rcases hu with rfl | rfl | rfl | rfl <;> rfl) (by unfold maxLen; omega) (by omega) (by simp; omega) ?_; intro a9 c9 w9 hown9 k91 k92 k93 hb9 hg9; rw [List.nil_append] at hown9; have HO9 := Lib.hid hown9; have HB9 := Lib.hid (HB8.out.trans (((balloc (brefl w8) (.cells #[.int .i64 60000, .int .i64 0, .int .i64 0, .int .i64 0] 63)).mono hz8).trans hb9)); have hz9 : w7.heap.size ≤ w9.heap.size := HB9.out.size; have z9 := (HB9.out.block w.heap.size hw7).trans Z7.out; have q9 := fun o => cell_of_heap z9 o; have f9 := fun o => froz_of_heap z9 o; have l9 := (Array.getElem?_eq_some_iff.1 z9).1; have Z9 := Lib.hid z9; clear hown9 hg9 k93 hb9 z9))
  obtain ⟨X, hX⟩ : ∃ X, X = w9.setCell ⟨w.heap.size, 2, none⟩ (.slice a9 (nE + 1) c9) := ⟨_, rfl⟩
  have HBX := Lib.hid (show Below w.heap.size w X from by rw [hX]; exact (HBW7.out.trans (HB9.out.mono (Nat.le_of_lt hw7))).setCell (p := ⟨w.heap.size, 2, none⟩) (Nat.le_refl _) _)
  have HX1 := Lib.hid (show MIs w3.heap.size g1 bs 2 rs S X from by rw [hX]; exact (HM1.out.below (HB7.out.trans (HB9.out.mono hz7))).setOther (o := 2) Z9.out notM_plan _)
  have HX2 := Lib.hid (show MIs w6.heap.size g2 (bs ++ ms) 2 (rowsT 0 nC 6 2) S X from by rw [hX]; exact (HM2.out.below HB9.out).setOther (o := 2) Z9.out notM_plan _)
  have HXb := Lib.hid (show Has X a1 (bytesV bs) from by
    rw [hX]
    exact has_set (o := 2) (HH4.out.below (HB7.out.trans (HB9.out.mono hz7))) (g := w.heap.size) (fun _ p hp => by
      obtain ⟨p1, h1, h2⟩ := HA1.out
      rw [h1] at hp
      cases hp
      exact h2) _)
  have HXE := Lib.hid (show Has X a9 (ec ++ entC4 (60000, 0, 0, 0)) from by
    rw [hX]
    exact has_of_owns (set_owns (o := 2) _ HO9.out (own_neE HO9.out Z9.out (by decide))))
  have hwX : w.heap.size ≤ X.heap.size := HBX.out.size
  rw [← hX]
  clear hX HM1 HM2 HO9 HO8 HH4 HH6 HHb HB9 HB8 HB7 HB6 HB5 HB4 HB3 Z9 Z7 Z4 Z2 q9 f9 l9 q7 f7 l7 hz9 hz8 hz7 hz6 hz5 HM HEH HE1 HA HE0
  refine (HW2.out X a9 c9 HBX.out HXE.out).mono ?_
  rintro e w10 ⟨a10, c10, rfl, hown10, k101, k102, k103, hb10⟩
  have HH10 := Lib.hid (has_of_owns hown10)
  have HB10 := Lib.hid hb10
  clear hown10 hb10
  go_wp2_with (first
    | (go_at_call 16; (with_reducible refine (mread_some a10 n3 c10 b3 30 2 30 2 rfl rfl (rowsT 0 nC 6 2) S w10 HH10.out HL3.out k101 k102 (by decide) (by decide) (by decide) HOK3.out).mono ?_); rintro e w11 ⟨g3, rfl, hM3, hb11⟩; have HM3 := Lib.hid hM3; have HB11 := Lib.hid (HB10.out.trans (hb11.mono HB10.out.size)); clear hb11 hM3))
  have HX1' := Lib.hid (HX1.out.below HB11.out)
  have HX2' := Lib.hid (HX2.out.below HB11.out)
  have HXb' := Lib.hid (HXb.out.below HB11.out)
  have HBF := Lib.hid (HBX.out.trans (HB11.out.mono hwX))
  have HRF := Lib.hid ((refM_any a1 nB c1 bs 30 2 30 2 rfl rfl w11 HXb'.out HL.out k11 k12 hn2.1 (by decide) (by decide) (by decide)).mono (R' := fun e w' => (∃ a' c', e = .returned (.tuple #[.agg (mrefA a1 nB c1 (num bs 0 4) (num bs 8 4) (num bs 12 4) S (needE bs S) 2 (adv a1 c1 (num bs 4 4)) (nB - num bs 4 4) (c1 - num bs 4 4) a' rs.length c'), .bool true])) ∧ Below w11.heap.size w11 w') (by
    rintro e w' ⟨(⟨rs', S', a', c', ho, he⟩ | ⟨hno, _⟩), hb⟩
    · obtain ⟨rfl, rfl⟩ := HOK.out.det ho
      exact ⟨⟨a', c', he⟩, hb⟩
    · exact absurd HOK.out (hno rs S)))
  have HS1 := Lib.hid (fun (a' : Option Addr) (c' : Nat) W' (hW' : Below w11.heap.size w11 W') => same_any w3.heap.size g1 bs 2 rs S a1 nB c1 bs 30 2 rs S (adv a1 c1 (num bs 4 4)) (nB - num bs 4 4) (c1 - num bs 4 4) a' rs.length c' W' (HX1'.out.below hW') (HXb'.out.below hW') HL.out hn2.1 HOK.out (by decide) rfl (Alike.refl bs S 2))
  have HS2 := Lib.hid (fun (a' : Option Addr) (c' : Nat) W' (hW' : Below w11.heap.size w11 W') => same_any w6.heap.size g2 (bs ++ ms) 2 (rowsT 0 nC 6 2) S a1 nB c1 bs 30 2 rs S (adv a1 c1 (num bs 4 4)) (nB - num bs 4 4) (c1 - num bs 4 4) a' rs.length c' W' (HX2'.out.below hW') (HXb'.out.below hW') HL.out hn2.1 HOK.out (by decide) rfl HAL2.out)
  have HS3 := Lib.hid (fun (a' : Option Addr) (c' : Nat) W' (hW' : Below w11.heap.size w11 W') => same_any w10.heap.size g3 b3 2 (rowsT 0 nC 6 2) S a1 nB c1 bs 30 2 rs S (adv a1 c1 (num bs 4 4)) (nB - num bs 4 4) (c1 - num bs 4 4) a' rs.length c' W' (HM3.out.below hW') (HXb'.out.below hW') HL.out hn2.1 HOK.out (by decide) rfl HAL3.out)
  unfold mrefA at HRF HS1 HS2 HS3
  rw [show ((2 : Nat) : Int) = 2 from rfl] at HS1 HS2 HS3
  clear HX1 HX2 HXb HX1' HX2' HXb' HM3 HOK HOK2 HOK3 HAL2 HAL3 HXE HW2 HW1
  generalize num bs 0 4 = P0 at *
  generalize num bs 4 4 = P4 at *
  generalize num bs 8 4 = P8 at *
  generalize num bs 12 4 = P12 at *
  generalize needE bs S = NE at *
  generalize adv a1 c1 P4 = A4 at *
  generalize rs.length = L at *
  go_wp2_with (first
    | (go_at_call 17; (with_reducible refine HRF.out.mono ?_); rintro e wt ⟨⟨a', c', rfl⟩, hbt⟩; have htc := bc hbt; have htf := bf hbt; have htz := hbt.size; try simp only [World.size_alloc, World.size_drew] at htz)
    | (go_at_call 18; (with_reducible refine (HS1.out a' c' _ (by exact blw)).mono ?_); rintro e wu ⟨rfl, hbu⟩; have huc := bc hbu; have huf := bf hbu; have huz := hbu.size; try simp only [World.size_alloc, World.size_drew] at huz)
    | (go_at_call 18; (with_reducible refine (HS2.out a' c' _ (by exact blw)).mono ?_); rintro e wx ⟨rfl, hbx⟩; have hxc := bc hbx; have hxf := bf hbx; have hxz := hbx.size; try simp only [World.size_alloc, World.size_drew] at hxz)
    | (go_at_call 18; (with_reducible refine (HS3.out a' c' _ (by exact blw)).mono ?_); rintro e wy' ⟨rfl, hby⟩))
  go_ret
  exact ⟨rfl, HBF.out.trans (Below.mono (show Below w11.heap.size w11 _ from by exact blw) HBF.out.size)⟩

open Go.ChangeShapes Go.WideShapes Go.ChangeAt Go.RowKit
open Go.ChangeMaps (open_string shut_string)

set_option maxRecDepth 100000 in
theorem stateMore_walks (H : Type) (enc : TypeId × Value → H) : Walks H enc 6 [59, 22] := by
  intro W base args ds p hval hA _
  obtain ⟨v0, vs0, d0, ds0, p0, q0, hargs, rfl, rfl, h0, r0⟩ := trodAll_cons hA
  obtain ⟨v1, vs1, d1, ds1, p1, q1, rfl, rfl, rfl, h1, r1⟩ := trodAll_cons r0
  obtain ⟨rfl, rfl, rfl⟩ := trodAll_nil r1
  obtain rfl : args = #[v0, v1] := by cases args; simp_all
  obtain ⟨p, aC, aR, aE, rv, cC, cR, cE, rfl, hP, hw, hE0⟩ := open_plan0 (hval 0 59 v0 rfl rfl) h0
  obtain ⟨a1, n1, c1, x1, rfl, e1, f1, g1, j1, k1⟩ := open_bytes Try.underlying22 Try.underlying5 (by kernel_rfl) (hval 1 22 v1 rfl rfl) h1
  exact stateMore_walk p aC aR aE rv cC cR cE a1 n1 c1 x1 W hP hw hE0 e1 f1 g1 j1 k1

set_option maxRecDepth 100000 in
theorem stateMore_lifted (os : Os) (started : os.Started) (H : Type) (enc : TypeId × Value → H) :
    ReturnsInHanded {} Try.checked os 6 .any (Rows.stateMoreSpec.pre6 enc Try.prog Try.f6 Rows.stateMoreRow.domain false) (Rows.stateMoreSpec.post enc Try.prog Try.f6 false true false false) :=
  lift_law (s := Rows.stateMoreSpec) (fn := Try.f6) started (by kernel_rfl) Try.func6
    (ChangeSpec.witness6 (enc := enc) (C := Try.checked) false ⟨#[], #[.agg #[.slice none 0 0, .slice none 0 0, .slice none 0 0, .int .u8 0], .slice none 0 0], []⟩ 8 (by kernel_rfl) (by kernel_rfl) (by kernel_rfl) (by kernel_rfl))
    rfl rfl (fun ds h => by match ds, h with | [d0, d1], _ => rfl) (by intro t ht; simp [Try.params6] at ht; first | (subst ht; exact ⟨by kernel_rfl, of_decide_eq_true (by kernel_rfl)⟩) | (obtain rfl | rfl := ht <;> exact ⟨by kernel_rfl, of_decide_eq_true (by kernel_rfl)⟩) | (obtain rfl | rfl | rfl := ht <;> exact ⟨by kernel_rfl, of_decide_eq_true (by kernel_rfl)⟩) | (obtain rfl | rfl | rfl | rfl := ht <;> exact ⟨by kernel_rfl, of_decide_eq_true (by kernel_rfl)⟩))
    (by rw [Try.params6]; exact stateMore_walks H enc)
theorem stateMore_over : Rows.stateMoreRow.holds Try.pinned (OpenSpec.ofChange Rows.stateMoreSpec) :=
  OpenClaim.holds_of_wide 6 Try.f6 rfl rfl rfl rfl rfl rfl rfl ⟨rfl, rfl, rfl, rfl, rfl⟩ rfl rfl rfl rfl rfl (by kernel_rfl) Try.func6 (by kernel_rfl)
    (of_decide_eq_true (by kernel_rfl)) (by unfold Func.isWrapper; first | (rw [if_pos (by decide +kernel)]; kernel_rfl) | (rw [if_neg (by decide +kernel)]; exact ⟨rfl, rfl⟩))
    (fun os started H enc _ => stateMore_lifted os started H enc)
theorem stateMore_proved : Rows.StateMoreSaid := stateMore_over
#print axioms stateMore_proved
end Go.Proofs.Ythepejljgolcoaa
