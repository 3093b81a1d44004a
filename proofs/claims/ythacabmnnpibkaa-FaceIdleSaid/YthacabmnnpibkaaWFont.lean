
/- The contract of swashlaw04.Font without other parts. Conditions: 1 to 1000 advances of two bytes, no more than 1000 glyphs beside. -/
import Derived.Test.YthacabmnnpibkaaWFontP
import Derived.Test.YthacabmnnpibkaaU16s
namespace Go.Proofs.Ythacabmnnpibkaa
open Go.RowKit Go.Lib

def FontRel (w : World) (vs : List Nat) (h i : Value) (wr : World) : Prop :=
  ∃ (k L : Nat) (a' : Option Addr) (c' : Nat), k ≤ vs.length ∧ L = 4 * k ∧ i = .int .i64 (k : Nat) ∧ h = .slice a' L c' ∧ wr.ownsRow w.heap.size 5 1 (.slice a' L c') L (bytesV (rowsF vs id k)) ∧ L ≤ c' ∧ c' ≤ maxLen ∧ (a' = none → c' = 0) ∧ Below w.heap.size w wr

theorem Bytes.keptE {e : TypeId} {w w' : World} {base : Nat} {p : PartV} (h : Bytes w base p) (hk : KeptE e w w') (he : 5 ≠ e) : Bytes w' base p := ⟨hk.owns h.own he, h.len, h.le, h.max, h.nil⟩

set_option maxRecDepth 100000 in
set_option maxHeartbeats 3200000 in
theorem font_any (a : Option Addr) (n c more : Nat) (vs : List Nat) (w : World) (h : Has w a (u16V vs)) (hl : vs.length = n) (hn : n ≤ c) (hc : c ≤ maxLen) (hv : ∀ s ∈ vs, s ≤ 65535) (h1 : 1 ≤ n) (hn2 : n ≤ 1000) (hm : more ≤ 1000) :
    Calls Try.prog 15 #[.slice a n c, .int .i64 (more : Nat), .slice none 0 0] w fun r w' => ∃ a' n' c' F, r = .returned (.slice a' n' c') ∧ w'.ownsRow w.heap.size 5 1 (.slice a' n' c') n' (bytesV F) ∧ F.length = n' ∧ n' ≤ c' ∧ c' ≤ maxLen ∧ (a' = none → c' = 0) ∧ n' ≤ 1000000 ∧ Plain4 F (n + more) 1000 n (rowsF vs id n ++ List.replicate (2 * more) 0) ∧ Below w.heap.size w w' := by
  have HH := Lib.hid h
  have HL := Lib.hid hl
  have HV := Lib.hid hv
  have hAC := allocC
  clear h hl hv
  go_enter Try.func15, Try.ntmps15
  go_wp2_with fail
  go_loopw [7, 13] (FontRel w vs) (fun _ i _ => n - (intOf i).toNat)
  case atStart => exact ⟨0, 0, none, 0, Nat.zero_le _, rfl, rfl, rfl, World.ownsRow_nil _ _ _ _, Nat.le_refl _, Nat.zero_le _, fun _ => rfl, Below.refl _ _⟩
  case round =>
    obtain ⟨k, L, a', c', hk, hLk, rfl, rfl, hown, k1, k2, k3, hbr⟩ := hrel
    rw [HL.out] at hk
    have HO := Lib.hid hown
    have HN := Lib.hid k3
    have HBR := Lib.hid hbr
    have HLK := Lib.hid hLk
    have hzr := hbr.size
    have hL5 : L ≤ 4000 := by omega
    clear hown k3 hbr hLk
    by_cases hlt : k < n
    · have HLT := Lib.hid hlt
      obtain ⟨b, o, rfl, hlb, hg⟩ := HH.out.get (by rw [u16V_length, HL.out]; omega)
      have hcell := (HBR.out.cell (p := ⟨b, o + k, none⟩) hlb).trans (hg k _ (u16V_get vs k (by rw [HL.out]; exact hlt)))
      have hsk : vs.getD k 0 ≤ 65535 := HV.out _ (by rw [List.getD_eq_getElem?_getD, List.getElem?_eq_getElem (by rw [HL.out]; exact hlt)]; exact List.getElem_mem _)
      have HSU := Lib.hid (rowsF_succ vs id k)
      generalize vs.getD k 0 = s at *
      have hlr : b < wr.heap.size := Nat.lt_of_lt_of_le hlb HBR.out.size
      generalize rowsF vs id k = R at *
      clear hg
      go_wp2_with (first
        | (go_at_call 18; (with_reducible refine (put_z w.heap.size a' L c' s 2 _ _ ?_ ?_ R _ ?_ ?_ ?_ ?_ ?_).mono ?_); (· first | rfl | omega); (· rfl); (· exact HO.out); (· exact hzr); (· omega); (· omega); (· decide); rintro e_ v1 ⟨b1, d1, rfl, hown1, q1, r1, s1, hc1, hd1⟩; have O1 := Lib.hid hown1; have S1 := Lib.hid s1; have C1 := Lib.hid hc1; have z1 := hd1.1; clear hown1 s1 hc1 hd1)
        | (go_at_call 18; (with_reducible refine (put_z w.heap.size b1 (L + 2) d1 k 2 _ _ ?_ ?_ (R ++ beN 2 s) _ ?_ ?_ ?_ ?_ ?_).mono ?_); (· first | rfl | omega); (· rfl); (· exact O1.out); (· omega); (· omega); (· omega); (· decide); rintro e_ v2 ⟨b2, d2, rfl, hown2, q2, r2, s2, hc2, hd2⟩; have O2 := Lib.hid hown2; have S2 := Lib.hid s2; have C2 := Lib.hid hc2; have z2 := hd2.1; clear hown2 s2 hc2 hd2))
      go_roundw
      case rel => exact ⟨k + 1, L + 2 + 2, b2, d2, by rw [HL.out]; exact HLT.out, by have := HLK.out; omega, by go_num, rfl, by rw [HSU.out, ← beN2, ← beN2]; exact O2.out, q2, r2, S2.out, HBR.out.trans (C1.out.trans C2.out)⟩
      case measure => simp [intOf]; have := HLT.out; omega
    · obtain rfl : k = n := by omega
      rename World => W
      have HTL := Lib.hid (show (rowsF vs id k ++ List.replicate (2 * more) 0).length = L + 2 * more by rw [List.length_append, rowsF_length, List.length_replicate, HLK.out])
      generalize hRR : rowsF vs id k = R at *
      have HRR := Lib.hid hRR
      clear hRR
      go_wp2_with (first
        | (at_builtin; refine wpAppZ rfl _ _ 22 3 9 rfl w.heap.size 5 Try.underlying22 Try.underlying3 Try.underlying9 u8_info _ L R rfl HO.out (2 * more) rfl (by omega) (by omega) ?_; intro b7 d7 v7 hown7 q7 r7 s7 hc7; have O7 := Lib.hid hown7; have S7 := Lib.hid s7; have C7 := Lib.hid hc7; have z7 := hc7.size; clear hown7 s7 hc7)
        | (go_at_call 10; refine (plain_z (k + more) 1000 k _ _ _ (by omega) rfl rfl _ (by omega) (by omega) (by omega)).mono ?_; rintro r v8 ⟨p1, p2, p3, gb, rfl, ho, o1, o2, o3, t1, t2, t3, b1, b2, b3, hb8⟩; have HO8 := Lib.hid ho; have P1 := Lib.hid o1; have P2 := Lib.hid o2; have P3 := Lib.hid o3; have T1 := Lib.hid t1; have T2 := Lib.hid t2; have T3 := Lib.hid t3; have B1 := Lib.hid b1; have B2 := Lib.hid b2; have B3 := Lib.hid b3; have z8 := hb8.size; have C8 := Lib.hid hb8; clear ho o1 o2 o3 t1 t2 t3 b1 b2 b3 hb8)
        | (at_builtin; refine wpApp rfl _ _ 24 rfl v7.heap.size 27 (.agg #[.string .empty, .slice none 0 0]) 2 40 Try.underlying24 rpart_info rfl (by decide) _ 3 (encAll [p1, p2, p3]) rfl (owns_below HO8.out (balloc (brefl v8) _) (Nat.le_refl _)) (some ⟨v8.heap.size, 0, none⟩) 1 1 (PartV.enc ⟨tHmtx, b7, L + 2 * more, d7, R ++ List.replicate (2 * more) 0⟩) rfl rfl (has_alloc _ _ _) (fun h => by cases h) (fun u hu => by simp [PartV.enc] at hu; rcases hu with rfl | rfl <;> rfl) (by decide) (by decide) (by simp; omega) ?_; intro a9 c9 v9 hown9 q9 r9 s9 hc9 hg9; have O9 := Lib.hid hown9; have S9 := Lib.hid s9; have C9 := Lib.hid hc9; have K9 := Lib.hid (KeptE.grown (owns_below HO8.out (balloc (brefl v8) _) (Nat.le_refl _)) hg9); have z9 := hg9.size; simp only [World.size_alloc] at z9; clear hown9 s9 hc9 hg9)
        | (at_builtin; refine wpApp rfl _ _ 24 rfl v7.heap.size 27 (.agg #[.string .empty, .slice none 0 0]) 2 40 Try.underlying24 rpart_info rfl (by decide) _ 4 (encAll [p1, p2, p3] ++ PartV.enc ⟨tHmtx, b7, L + 2 * more, d7, R ++ List.replicate (2 * more) 0⟩) rfl O9.out none 0 0 [] rfl rfl (Has.nil _ _) (fun _ => rfl) (fun u hu => by cases hu) (by decide) (by decide) (by omega) ?_; intro aa ca va hown10 q10 r10 s10 hc10 hg10; have O10 := Lib.hid hown10; have S10 := Lib.hid s10; have C10 := Lib.hid hc10; have K10 := Lib.hid (KeptE.grown O9.out hg10); have z10 := hg10.size; clear hown10 s10 hc10 hg10))
      obtain ⟨p4, hp4⟩ : ∃ p4 : PartV, p4 = ⟨tHmtx, b7, L + 2 * more, d7, R ++ List.replicate (2 * more) 0⟩ := ⟨_, rfl⟩
      have hK : KeptE 27 v8 va := ((KeptE.below (balloc (brefl v8) (Obj.cells p4.enc.toArray 27))).trans (by rw [hp4]; exact K9.out)).trans K10.out
      have Y1 := (P1.out.keptE hK (by decide)).mono (show w.heap.size ≤ v7.heap.size by omega)
      have Y2 := (P2.out.keptE hK (by decide)).mono (show w.heap.size ≤ v7.heap.size by omega)
      have Y3 := (P3.out.keptE hK (by decide)).mono (show w.heap.size ≤ v7.heap.size by omega)
      have Y4 : Bytes va w.heap.size p4 := by
        have h4 : Bytes v7 w.heap.size p4 := by rw [hp4]; exact ⟨O7.out, HTL.out, q7, r7, S7.out⟩
        exact (h4.below C8.out (Nat.le_refl _)).keptE hK (by decide)
      have hEnc : Has va aa (encAll [p1, p2, p3, p4]) := by
        have := has_of_owns O10.out
        rw [← hp4, List.append_nil] at this
        simpa [encAll] using this
      have HM := Lib.hid (rmake_four aa ca p1 p2 p3 p4 w.heap.size va hEnc q10 r10 Y1 Y2 Y3 Y4 T1.out T2.out T3.out (by rw [hp4]) B1.out B2.out B3.out (by omega) (by omega) (by omega) (by rw [hp4]; show L + 2 * more ≤ 100000; omega))
      have HP4 := Lib.hid (show p4.bs = R ++ List.replicate (2 * more) 0 by rw [hp4])
      have HBA := Lib.hid (show Below w.heap.size w va from (HBR.out.trans C7.out).trans ((C8.out.trans (((balloc (brefl v8) _).mono z8).trans (C9.out.trans C10.out))).mono (by omega)))
      clear hK Y1 Y2 Y3 Y4 hEnc hp4 K9 K10 O7 HO8 O9 O10 P1 P2 P3
      refine HM.out.mono ?_
      rintro r vm ⟨am, nm, cm, F, rfl, hF, hFl, m1, m2, m3, m4, hP, hbm⟩
      have HF := Lib.hid (owns_mono hF HBA.out.size)
      have HFL := Lib.hid hFl
      have HM3 := Lib.hid m3
      have HPL := Lib.hid hP
      have HBM := Lib.hid (HBA.out.trans (hbm.mono HBA.out.size))
      clear hF hFl m3 hP hbm HM
      go_wp2_with fail
      go_ret
      exact ⟨am, nm, cm, F, rfl, HF.out, HFL.out, m1, m2, HM3.out, m4, by have := HPL.out; rw [HP4.out] at this; rw [HRR.out]; exact this, HBM.out⟩
end Go.Proofs.Ythacabmnnpibkaa
