
/- Pairs: what an argument of them is, and the contract of rising. Conditions: as many pairs as the slice says. The contract of rising. Conditions: as many pairs as the slice says, no more than 30. -/
import Derived.ChangeSame
import Derived.Test.YtajhljgcbafbcaaFrame
import Derived.Test.YtajhljgcbafbcaaLAlike
import Derived.Test.YtajhljgcbafbcaaLRefS
namespace Go.Proofs.Ytajhljgcbafbcaa
open Go.RowKit Go.Lib

def pairsV (zs : List (Nat × Nat)) : List Value := zs.flatMap fun z => [.int .u16 (z.1 : Nat), .int .u16 (z.2 : Nat)]
theorem pairsV_length (zs : List (Nat × Nat)) : (pairsV zs).length = zs.length * 2 := by
  induction zs with
  | nil => rfl
  | cons z zs ih => simp only [pairsV, List.flatMap_cons, List.length_append] at *; rw [ih]; simp; omega
theorem pairsV_get : ∀ (zs : List (Nat × Nat)) (i : Nat) (z : Nat × Nat), zs[i]? = some z → (pairsV zs)[i * 2]? = some (.int .u16 (z.1 : Nat)) ∧ (pairsV zs)[i * 2 + 1]? = some (.int .u16 (z.2 : Nat))
  | [], i, z, h => by simp at h
  | q :: zs, 0, z, h => by
    simp at h
    subst h
    simp [pairsV]
  | q :: zs, i + 1, z, h => by
    have := pairsV_get zs i z (by simpa using h)
    have e : ∀ k, (pairsV (q :: zs))[(i + 1) * 2 + k]? = (pairsV zs)[i * 2 + k]? := fun k => by
      show ([_, _] ++ pairsV zs)[(i + 1) * 2 + k]? = _
      rw [List.getElem?_append_right (by simp; omega)]
      congr 1
      simp
      omega
    have e0 := e 0
    simp only [Nat.add_zero] at e0
    rw [e0, e 1]
    exact this
theorem pairsV_snoc (zs : List (Nat × Nat)) (z : Nat × Nat) : pairsV zs ++ [.int .u16 (z.1 : Nat), .int .u16 (z.2 : Nat)] = pairsV (zs ++ [z]) := by simp [pairsV]
section
variable {H : Type} {enc : TypeId × Value → H}
theorem open_pairs {P : Program} {W : World} {base : Nat} {t e : TypeId} {f0 f1 : Field} {v : Value} {d : DataW H} {p : List MemPlace} (ht : P.underlying t = some (.slice e)) (he : P.underlying e = some (.struct #[f0, f1]))
    (h0 : P.underlying f0.type = some (.int .u16)) (h1 : P.underlying f1.type = some (.int .u16)) (o0 : f0.offset = 0) (o1 : f1.offset = 1) (c0 : P.cellsOf f0.type = 1) (c1 : P.cellsOf f1.type = 1) (ce : P.cellsOf e = 2)
    (hv : Value.okWide P W .any base t v) (h : DataW.Trod enc P W 0 (fun _ => true) true t v d p) :
    ∃ (a : Option Addr) (n c : Nat) (zs : List (Nat × Nat)), v = .slice a n c ∧ zs.length = n ∧ n ≤ c ∧ c ≤ maxLen ∧ (a = none → c = 0) ∧ Has W a (pairsV zs) ∧ ∀ z ∈ zs, z.1 ≤ 65535 ∧ z.2 ≤ 65535 := by
  obtain ⟨a, n, c, us, rfl, hl, hn, hc, hA, hh, hx⟩ := open_rows ht hv h
  have key : ∀ us : List (List Value), (∀ x ∈ us, x.length = P.cellsOf e ∧ ∃ m y, DataW.trod enc P W 0 (fun _ => true) true m e x = some y) → ∃ zs : List (Nat × Nat), zs.length = us.length ∧ us.flatten = pairsV zs ∧ ∀ z ∈ zs, z.1 ≤ 65535 ∧ z.2 ≤ 65535 := by
    intro us
    induction us with
    | nil => exact fun _ => ⟨[], rfl, rfl, fun z hz => by cases hz⟩
    | cons x us ih =>
      intro h
      obtain ⟨zs, q1, q2, q3⟩ := ih (fun y hy => h y (by simp [hy]))
      obtain ⟨hlx, m, y, hy⟩ := h x (by simp)
      obtain ⟨y0, y1, k, _, _, t0, t1⟩ := Go.ChangeShapes.trod_struct2 he hy
      rw [o0, c0] at t0
      rw [o1, c1] at t1
      obtain ⟨z0, e0, _, w0⟩ := DataW.trod_int h0 t0
      obtain ⟨z1, e1, _, w1⟩ := DataW.trod_int h1 t1
      obtain ⟨k0, rfl, b0⟩ := wf_u16 w0
      obtain ⟨k1, rfl, b1⟩ := wf_u16 w1
      rw [ce] at hlx
      have hxe : x = [.int .u16 (k0 : Nat), .int .u16 (k1 : Nat)] := by
        match x, hlx with
        | [x0, x1], _ =>
          simp at e0 e1
          rw [e0, e1]
      exact ⟨(k0, k1) :: zs, by simp [q1], by rw [List.flatten_cons, hxe, q2]; rfl, fun z hz => by
        rcases List.mem_cons.1 hz with rfl | hz
        · exact ⟨b0, b1⟩
        · exact q3 z hz⟩
  obtain ⟨zs, q1, q2, q3⟩ := key us hx
  exact ⟨a, n, c, zs, rfl, q1.trans hl, hn, hc, hA, q2 ▸ hh, q3⟩
end

/-- Pairs by rising glyphs, below 65535. -/
def Ris (R : List (Nat × Nat)) : Prop := R.Pairwise (fun x y => x.1 < y.1) ∧ ∀ z ∈ R, z.1 ≤ 65534 ∧ z.2 ≤ 65535
theorem ris_len {R : List (Nat × Nat)} {k : Nat} (h : Ris R) (hk : ∀ z ∈ R, z.1 < k) : R.length ≤ k := by
  suffices hs : ∀ (R : List (Nat × Nat)) (a : Nat), R.Pairwise (fun x y => x.1 < y.1) → (∀ z ∈ R, a ≤ z.1 ∧ z.1 < k) → R.length ≤ k - a by
    have := hs R 0 h.1 (fun z hz => ⟨Nat.zero_le _, hk z hz⟩)
    omega
  intro R
  induction R with
  | nil => intro a _ _; simp
  | cons z R ih =>
    intro a hp hb
    rw [List.pairwise_cons] at hp
    obtain ⟨b1, b2⟩ := hb z (by simp)
    have := ih (z.1 + 1) hp.2 (fun y hy => ⟨hp.1 y hy, (hb y (by simp [hy])).2⟩)
    simp only [List.length_cons]
    omega
theorem ris_last {R : List (Nat × Nat)} (h : Ris R) {z : Nat × Nat} (hz : R[R.length - 1]? = some z) : ∀ y ∈ R, y.1 ≤ z.1 := by
  intro y hy
  obtain ⟨i, hi, rfl⟩ := List.getElem_of_mem hy
  obtain ⟨hj, rfl⟩ := List.getElem?_eq_some_iff.1 hz
  rcases Nat.lt_or_ge i (R.length - 1) with g | g
  · have := List.pairwise_iff_getElem.1 h.1 i (R.length - 1) hi hj g
    omega
  · have : i = R.length - 1 := by omega
    subst this
    exact Nat.le_refl _
theorem ris_snoc {R : List (Nat × Nat)} (h : Ris R) {z : Nat × Nat} (h1 : ∀ y ∈ R, y.1 < z.1) (h2 : z.1 ≤ 65534) (h3 : z.2 ≤ 65535) : Ris (R ++ [z]) := by
  refine ⟨List.pairwise_append.2 ⟨h.1, List.pairwise_singleton _ _, fun x hx y hy => ?_⟩, fun y hy => ?_⟩
  · simp at hy; subst hy; exact h1 x hx
  · rcases List.mem_append.1 hy with hy | hy
    · exact h.2 y hy
    · simp at hy; subst hy; exact ⟨h2, h3⟩
theorem pair_info : (Try.prog.info? 43).map (fun i => (i.zero, i.size, i.bytes)) = some (some (.agg #[.int .u16 0, .int .u16 0]), 2, 4) := by kernel_rfl
theorem len_sub : ∀ (R zs : List (Nat × Nat)), R.Pairwise (fun x y => x.1 < y.1) → (∀ z ∈ R, z ∈ zs) → R.length ≤ zs.length
  | [], zs, _, _ => Nat.zero_le _
  | y :: R, zs, hp, hm => by
    rw [List.pairwise_cons] at hp
    have hy := hm y (by simp)
    have := len_sub R (zs.erase y) hp.2 (fun z hz => (List.mem_erase_of_ne (fun he => by have := hp.1 z hz; rw [he] at this; omega)).2 (hm z (by simp [hz])))
    rw [List.length_erase_of_mem hy] at this
    have := List.length_pos_of_mem hy
    simp only [List.length_cons]
    omega
def RiseRel (zs : List (Nat × Nat)) (w : World) (k : Nat) (out : Value) (wr : World) : Prop :=
  ∃ (R : List (Nat × Nat)) (a' : Option Addr) (c' : Nat), out = .slice a' R.length c' ∧ wr.ownsRow w.heap.size 43 2 out R.length (pairsV R) ∧ R.length ≤ c' ∧ c' ≤ maxLen ∧ Ris R ∧ ((∀ z ∈ R, z.1 < k) ∧ ∀ z ∈ R, z ∈ zs) ∧ Below w.heap.size w wr
set_option maxRecDepth 100000 in
set_option maxHeartbeats 3200000 in
theorem rising_all (a : Option Addr) (n c : Nat) (zs : List (Nat × Nat)) (w : World) (h : Has w a (pairsV zs)) (hl : zs.length = n) (hn : n ≤ c) (hc : c ≤ maxLen) (h30 : n ≤ 30) (hz : ∀ z ∈ zs, z.1 ≤ 65535 ∧ z.2 ≤ 65535) :
    Calls Try.prog 20 #[.slice a n c] w fun e w' => ∃ (R : List (Nat × Nat)) (a' : Option Addr) (c' : Nat), e = .returned (.slice a' R.length c') ∧ w'.ownsRow w.heap.size 43 2 (.slice a' R.length c') R.length (pairsV R) ∧ R.length ≤ c' ∧ c' ≤ maxLen ∧ Ris R ∧ R.length ≤ 65535 ∧ R.length ≤ n ∧ Below w.heap.size w w' := by
  have hAC := allocC
  have hAF := allocF
  have HH := Lib.hid h
  have HL := Lib.hid hl
  have HZ := Lib.hid hz
  clear h hl hz
  go_enter Try.func20, Try.ntmps20
  go_wp2_with fail
  go_loopw [3, 7] (fun out i wr => ∃ k : Nat, k ≤ 65535 ∧ i = .int .i64 (k : Nat) ∧ RiseRel zs w k out wr) (fun _ i _ => 65535 - (intOf i).toNat)
  case atStart => exact ⟨0, Nat.zero_le _, rfl, [], none, 0, rfl, ⟨rfl, .inl ⟨rfl, rfl⟩⟩, Nat.le_refl _, Nat.zero_le _, ⟨List.Pairwise.nil, fun z hz => by cases hz⟩, ⟨fun z hz => (by cases hz), fun z hz => (by cases hz)⟩, brefl _⟩
  case round =>
    obtain ⟨k, hk, rfl, R, a2, c2, rfl, ho, q1, q2, hR, hRk, hbr⟩ := hrel
    have HO := Lib.hid ho
    have HR := Lib.hid hR
    have HRK := Lib.hid hRk
    have HBR := Lib.hid hbr
    clear ho hR hRk hbr
    by_cases hlt : k < 65535
    · have HLT := Lib.hid hlt
      have hlti : (k : Int) < 65535 := by omega
      have hlti2 : decide ((k : Int) < 65535) = true := by simp; omega
      clear hlt hk
      go_wp2_with fail
      go_loopw [3, 12] (fun out i wv => ∃ j : Nat, j ≤ n ∧ i = .int .i64 (j : Nat) ∧ RiseRel zs w (k + 1) out wv) (fun _ i _ => n - (intOf i).toNat)
      case atStart => exact ⟨0, Nat.zero_le _, rfl, R, a2, c2, rfl, HO.out, q1, q2, HR.out, ⟨fun z hz => Nat.lt_succ_of_lt (HRK.out.1 z hz), HRK.out.2⟩, HBR.out⟩
      case round =>
        obtain ⟨j, hj, rfl, S, a3, c3, rfl, ho3, r1, r2, hS, hSk, hbv⟩ := hrel
        rename World => wv
        have HO3 := Lib.hid ho3
        have HS := Lib.hid hS
        have HSK := Lib.hid hSk
        have HBV := Lib.hid hbv
        have hSl := ris_len hS hSk.1
        clear ho3 hS hSk hbv
        by_cases hlt2 : j < n
        · have HLT2 := Lib.hid hlt2
          obtain ⟨z, hzz⟩ : ∃ z, zs[j]? = some z := ⟨_, List.getElem?_eq_getElem (by rw [HL.out]; exact hlt2)⟩
          obtain ⟨g0, g1⟩ := pairsV_get zs j z hzz
          obtain ⟨b0, b1⟩ := HZ.out z (List.mem_of_getElem? hzz)
          have HM := Lib.hid (List.mem_of_getElem? hzz)
          have hhv := HH.out.below HBV.out
          obtain ⟨p, hap, k0⟩ := hhv _ _ g0
          have k1 : wv.cell? ⟨(p.add (j * 2)).block, (p.add (j * 2)).off + 1, none⟩ = some (.int .u16 (z.2 : Nat)) := by
            rw [add_next]
            obtain ⟨x, hx, hc⟩ := hhv _ _ g1
            rw [hap] at hx; cases hx; exact hc
          have k2 : wv.cell? ((p.add (j * 2)).add 1) = some (.int .u16 (z.2 : Nat)) := by
            obtain ⟨x, hx, hc⟩ := hhv _ _ g1
            rw [hap] at hx; cases hx
            have : (p.add (j * 2)).add 1 = p.add (j * 2 + 1) := by
              obtain ⟨b, o, s⟩ := p
              simp only [Addr.add]
              by_cases h : j * 2 = 0 <;> simp [h, Nat.add_assoc]
            rw [this]; exact hc
          have HAP := Lib.hid hap
          subst hap
          clear g0 g1 hhv hzz
          obtain ⟨z1, z2⟩ := z
          simp only at k0 k1 k2 b0 b1
          have hwv : w.heap.size ≤ wv.heap.size := HBV.out.size
          have HBA := Lib.hid (HBV.out.alloc hwv (Obj.cells #[.int .u16 (z1 : Nat), .int .u16 (z2 : Nat)] 43))
          have HOA := Lib.hid (owns_below HO3.out (balloc (brefl wv) (Obj.cells #[.int .u16 (z1 : Nat), .int .u16 (z2 : Nat)] 43)) (Nat.le_refl _))
          by_cases hzk : z1 = k
          case neg =>
            have e1 : ((z1 : Int) == (k : Int)) = false := by rw [beq_eq_false_iff_ne]; omega
            go_wp2_with fail
            go_roundw
            case rel => exact ⟨j + 1, HLT2.out, by go_num, S, a3, c3, rfl, HOA.out, r1, r2, HS.out, HSK.out, HBA.out⟩
            case measure => simp [intOf]; have := HLT2.out; omega
          subst hzk
          by_cases hS0 : S = []
          · subst hS0
            have HRN := Lib.hid (show Ris [(z1, z2)] ∧ (∀ z ∈ [(z1, z2)], z.1 < z1 + 1) ∧ ∀ z ∈ [(z1, z2)], z ∈ zs from
              ⟨ris_snoc (R := []) HS.out (fun y hy => by cases hy) (by have := HLT.out; show z1 ≤ 65534; omega) b1, fun z hz => (by simp at hz; subst hz; show z1 < z1 + 1; omega), fun z hz => (by simp at hz; subst hz; exact HM.out)⟩)
            clear b0 b1 hSl
            simp only [List.length_nil] at *
            go_wp2_with (first | (at_builtin; refine wpAppL rfl _ _ 39 rfl w.heap.size 43 (.agg #[.int .u16 0, .int .u16 0]) 2 4 Try.underlying39 pair_info rfl (by decide) _ 0 (pairsV []) rfl (owns_below HO3.out (balloc (balloc (brefl wv) _) _) (Nat.le_refl _)) ⟨wv.heap.size + 1, 0, none⟩ 1 1 [.int .u16 (z1 : Nat), .int .u16 (z2 : Nat)] rfl rfl (by have := has_alloc (wv.alloc (Obj.cells #[.int .u16 (z1 : Nat), .int .u16 (z2 : Nat)] 43)) #[.int .u16 (z1 : Nat), .int .u16 (z2 : Nat)] 43; simpa using this) (fun u hu => by simp at hu; rcases hu with rfl | rfl <;> rfl) (by unfold maxLen; omega) (by omega) (by simp; omega) ?_; intro a4 c4 w4 hown4 t41 t42 t43 hb4 hg4; have HO4 := Lib.hid hown4; have HB4 := Lib.hid hb4; have hz4 := hg4.size; clear hown4 hb4 hg4 t43; (try dsimp only [Act.put]); (try simp only [List.setIfInBounds_toArray, List.set_cons_succ, List.set_cons_zero])))
            have HBE := Lib.hid ((HBV.out.trans ((show Below w.heap.size wv _ from ((Below.refl w.heap.size wv).alloc hwv (Obj.cells #[.int .u16 (z1 : Nat), .int .u16 (z2 : Nat)] 43)).alloc (by simp; omega) (Obj.cells #[.int .u16 (z1 : Nat), .int .u16 (z2 : Nat)] 43)).trans HB4.out)))
            go_roundw
            case rel => exact ⟨j + 1, HLT2.out, by go_num, [(z1, z2)], a4, c4, rfl, HO4.out, t41, t42, HRN.out.1, HRN.out.2, HBE.out⟩
            case measure => simp [intOf]; have := HLT2.out; omega
          · obtain ⟨y, hy⟩ : ∃ y, S[S.length - 1]? = some y := ⟨_, List.getElem?_eq_getElem (by have := List.length_pos_iff.2 hS0; omega)⟩
            have hpos := List.length_pos_iff.2 hS0
            have e2 : ((S.length : Int) == 0) = false := by rw [beq_eq_false_iff_ne]; omega
            obtain ⟨y0, _⟩ := pairsV_get S _ y hy
            obtain ⟨g3, hap3⟩ : ∃ g3, a3 = some ⟨g3, 0, none⟩ := by
              rcases HO3.out.2 with ⟨hv, hn0⟩ | ⟨g3, cap, cur, hv, _⟩
              · omega
              · injection hv with ea _ _
                exact ⟨g3, ea⟩
            have ho3 := HO3.out
            rw [hap3] at ho3
            have hyc := (ho3.cellAt ((S.length - 1) * 2) (by omega)).trans y0
            have hgl := cell_lt hyc
            simp only at hgl
            have hym : (S.length : Int) - 1 = ((S.length - 1 : Nat) : Int) := by omega
            have hy1 : y.1 ≤ z1 := by have := HSK.out.1 y (List.mem_of_getElem? hy); omega
            have hlast := ris_last HS.out hy
            have hmL : S.length - 1 < S.length := by omega
            have hL65 : S.length ≤ 65536 := by have := HLT.out; omega
            have hyb : y.1 ≤ 65535 := by have := (HS.out.2 y (List.mem_of_getElem? hy)).1; omega
            by_cases hyz : y.1 = z1
            · have e3 : ((y.1 : Int) != (z1 : Int)) = false := by rw [hyz]; simp
              clear hyz hy hSl hy1 b1 y0 ho3 hlast hS0 hlti hlti2
              rw [hap3]
              have HOB := Lib.hid (show (wv.alloc (Obj.cells #[.int .u16 (z1 : Nat), .int .u16 (z2 : Nat)] 43)).ownsRow w.heap.size 43 2 (.slice (some ⟨g3, 0, none⟩) S.length c3) S.length (pairsV S) from by rw [← hap3]; exact HOA.out)
              clear hap3
              generalize y.1 = yy at *
              generalize hmm : S.length - 1 = m at *
              generalize hLS : S.length = L at *
              have HLS := Lib.hid hLS
              clear hLS hmm
              go_wp2_with fail
              go_roundw
              case rel => exact ⟨j + 1, HLT2.out, by go_num, S, some ⟨g3, 0, none⟩, c3, by rw [HLS.out], by rw [HLS.out]; exact HOB.out, by rw [HLS.out]; exact r1, r2, HS.out, HSK.out, HBA.out⟩
              case measure => simp [intOf]; have := HLT2.out; omega
            · have e3 : ((y.1 : Int) != (z1 : Int)) = true := by rw [bne_iff_ne]; omega
              have HRN := Lib.hid (show Ris (S ++ [(z1, z2)]) ∧ (∀ z ∈ S ++ [(z1, z2)], z.1 < z1 + 1) ∧ ∀ z ∈ S ++ [(z1, z2)], z ∈ zs from
                ⟨ris_snoc HS.out (fun x hx => by have := hlast x hx; show x.1 < z1; omega) (by have := HLT.out; show z1 ≤ 65534; omega) b1, fun z hz => (by
                  rcases List.mem_append.1 hz with hz | hz
                  · exact HSK.out.1 z hz
                  · simp at hz; subst hz; show z1 < z1 + 1; omega), fun z hz => (by
                  rcases List.mem_append.1 hz with hz | hz
                  · exact HSK.out.2 z hz
                  · simp at hz; subst hz; exact HM.out)⟩)
              clear hyz hy hSl hy1 b1 y0 hlast hS0 hlti hlti2
              have HO5 := Lib.hid ho3
              clear ho3
              rw [hap3]
              clear hap3
              have HT4 := Lib.hid (pairsV_snoc S (z1, z2))
              generalize y.1 = yy at *
              generalize hmm : S.length - 1 = m at *
              generalize hLS : S.length = L at *
              have HLS := Lib.hid hLS
              clear hLS hmm
              go_wp2_with (first | (at_builtin; refine wpAppL rfl _ _ 39 rfl w.heap.size 43 (.agg #[.int .u16 0, .int .u16 0]) 2 4 Try.underlying39 pair_info rfl (by decide) _ L (pairsV S) rfl (owns_below HO5.out (balloc (balloc (brefl wv) _) _) (Nat.le_refl _)) ⟨wv.heap.size + 1, 0, none⟩ 1 1 [.int .u16 (z1 : Nat), .int .u16 (z2 : Nat)] rfl rfl (by have := has_alloc (wv.alloc (Obj.cells #[.int .u16 (z1 : Nat), .int .u16 (z2 : Nat)] 43)) #[.int .u16 (z1 : Nat), .int .u16 (z2 : Nat)] 43; simpa using this) (fun u hu => by simp at hu; rcases hu with rfl | rfl <;> rfl) (by unfold maxLen; omega) (by omega) (by simp; omega) ?_; intro a4 c4 w4 hown4 t41 t42 t43 hb4 hg4; have HO4 := Lib.hid hown4; have HB4 := Lib.hid hb4; have hz4 := hg4.size; clear hown4 hb4 hg4 t43; (try dsimp only [Act.put]); (try simp only [List.setIfInBounds_toArray, List.set_cons_succ, List.set_cons_zero])))
              have HBE := Lib.hid ((HBV.out.trans ((show Below w.heap.size wv _ from ((Below.refl w.heap.size wv).alloc hwv (Obj.cells #[.int .u16 (z1 : Nat), .int .u16 (z2 : Nat)] 43)).alloc (by simp; omega) (Obj.cells #[.int .u16 (z1 : Nat), .int .u16 (z2 : Nat)] 43)).trans HB4.out)))
              go_roundw
              case rel => exact ⟨j + 1, HLT2.out, by go_num, S ++ [(z1, z2)], a4, c4, by rw [List.length_append, HLS.out]; rfl, by rw [List.length_append, HLS.out, ← HT4.out]; exact HO4.out, by rw [List.length_append, HLS.out]; exact t41, t42, HRN.out.1, HRN.out.2, HBE.out⟩
              case measure => simp [intOf]; have := HLT2.out; omega
        · obtain rfl : j = n := by omega
          by_cases hSn : S.length = j
          · have HSN := Lib.hid hSn
            clear hSn
            have HKK := Lib.hid (show k + 1 ≤ 65535 from HLT.out)
            clear hlti hlti2 hSl
            generalize hLS : S.length = L at *
            have HLS := Lib.hid hLS
            clear hLS
            have hLj : L = j := HSN.out
            subst hLj
            go_wp2_with fail
            go_ret
            exact ⟨S, a3, c3, by rw [HLS.out]; rfl, by rw [HLS.out]; exact HO3.out, by rw [HLS.out]; exact r1, r2, HS.out, Nat.le_trans (ris_len HS.out HSK.out.1) HKK.out, HL.out ▸ len_sub _ _ HS.out.1 HSK.out.2, HBV.out⟩
          · have e9 : ((S.length : Int) == (j : Int)) = false := by rw [beq_eq_false_iff_ne]; omega
            clear hSn
            go_wp2_with fail
            go_roundw
            case rel => exact ⟨k + 1, HLT.out, by go_num, S, a3, c3, rfl, HO3.out, r1, r2, HS.out, HSK.out, HBV.out⟩
            case measure => simp [intOf]; have := HLT.out; omega
    · have hlti : ¬ (k : Int) < 65535 := by omega
      have HK := Lib.hid hk
      clear hlt hk
      go_wp2_with fail
      go_ret
      exact ⟨R, a2, c2, rfl, HO.out, q1, q2, HR.out, Nat.le_trans (ris_len HR.out HRK.out.1) HK.out, HL.out ▸ len_sub _ _ HR.out.1 HRK.out.2, HBR.out⟩
theorem rising_any (a : Option Addr) (n c : Nat) (zs : List (Nat × Nat)) (w : World) (h : Has w a (pairsV zs)) (hl : zs.length = n) (hn : n ≤ c) (hc : c ≤ maxLen) (h30 : n ≤ 30) (hz : ∀ z ∈ zs, z.1 ≤ 65535 ∧ z.2 ≤ 65535) :
    Calls Try.prog 20 #[.slice a n c] w fun e w' => ∃ (R : List (Nat × Nat)) (a' : Option Addr) (c' : Nat), e = .returned (.slice a' R.length c') ∧ w'.ownsRow w.heap.size 43 2 (.slice a' R.length c') R.length (pairsV R) ∧ R.length ≤ c' ∧ c' ≤ maxLen ∧ Ris R ∧ R.length ≤ 65535 ∧ Below w.heap.size w w' := by
  refine (rising_all a n c zs w h hl hn hc h30 hz).mono ?_
  rintro e w' ⟨R, a', c', h1, h2, h3, h4, h5, h6, _, h7⟩
  exact ⟨R, a', c', h1, h2, h3, h4, h5, h6, h7⟩
end Go.Proofs.Ytajhljgcbafbcaa
