/- Joined from: KReadW CMap. -/
import Derived.Test.YtcegoenlajkgfaaJ01
import Derived.Test.YtcegoenlajkgfaaJ17
import Derived.Test.YtcegoenlajkgfaaJ08
import Derived.Maps.OwnOps
import Derived.Maps.OwnSet
section

/- The document's Read of layer 15: of bytes that begin with a machine. Conditions: bytes as the slice says; sizes. -/
namespace Go.Proofs.Ytcegoenlajkgfaa
open Go.RowKit Go.Lib

theorem HasN.keptK {B g9 : Nat} {w w' : World} {a : Option Addr} {xs : List Value} {c9 : Array Value} {fz9 : Nat × Nat} (h : HasN B w a xs) (hk : KeptO (ownK g9) w w') (h9 : w.heap[g9]? = some (.cells c9 45 fz9)) : HasN B w' a xs := by
  have key : ∀ p, a = some p → xs ≠ [] → w'.heap[p.block]? = w.heap[p.block]? := fun p hp hx => by
    obtain ⟨h1, cs, fz, h2⟩ := h.2 hx p hp
    refine hk.2 _ _ _ _ h2 ?_
    rintro (e | e)
    · rw [e, h9] at h2
      injection h2 with h2
      injection h2 with _ h2 _
      exact absurd h2 (by decide)
    · exact absurd e (by decide)
  refine ⟨fun j u hu => ?_, fun hx p hp => ?_⟩
  · obtain ⟨p, hp, hc⟩ := h.1 j u hu
    refine ⟨p, hp, ?_⟩
    have hx : xs ≠ [] := by rintro rfl; simp at hu
    rw [← hc]
    unfold World.cell?
    rw [add_block, key p hp hx]
  · obtain ⟨h1, cs, fz, h2⟩ := h.2 hx p hp
    exact ⟨h1, cs, fz, (key p hp hx).trans h2⟩
set_option maxRecDepth 100000 in
set_option maxHeartbeats 12800000 in
theorem refcread_some (a : Option Addr) (n c : Nat) (bs : List UInt8) (glyphs : Nat) (zg : Int) (hzg : zg = (glyphs : Nat)) (rs : List RP) (S : Nat) (w : World) (h : Has w a (bytesV bs)) (hl : bs.length = n) (hn : n ≤ c) (hc : c ≤ maxLen) (h20 : n ≤ 4000) (hg1 : 1 ≤ glyphs) (hg2 : glyphs ≤ 65535) (hok : MOk bs glyphs 2 rs S) :
    Calls Try.prog 16 #[.slice a n c, .int .i64 zg] w (CReadIs a n c bs glyphs w) := by
  have hAC := allocC
  have hAF := allocF
  subst hzg
  have hrd := fun W (hW : Below w.heap.size w W) => refread_yesN a n c bs glyphs 2 (glyphs : Int) 2 rfl rfl rs S W (h.below hW) hl hn hc h20 hg1 hg2 (by decide) hok
  have HU := Lib.hid (fun W (hW : Below w.heap.size w W) => qAt_any a n c bs 16 16 rfl W (h.below hW) hl (Nat.le_trans hn hc) (by omega))
  have hq := qAt_bound bs 16
  have HOK := Lib.hid hok
  have HH := Lib.hid h
  have HL := Lib.hid hl
  have hS2 := hok.s6 (by omega)
  have hNE : needE bs S ≤ 65536 := needE_le bs S
  obtain ⟨Q, hQ⟩ : ∃ Q, qAt bs 16 = Q := ⟨_, rfl⟩
  rw [hQ] at HU hq
  have HQ := Lib.hid hQ
  have HUQ := Lib.hid (fun (k : Nat) (hk : k ≤ 1000000000000) W (hW : Below w.heap.size w W) (z : Int) (hz : z = (k : Nat)) => qAt_any a n c bs k z hz W (HH.out.below hW) HL.out (Nat.le_trans hn hc) hk)
  have hen := fun (i : Nat) (hi : i < needE bs S) (a' : Option Addr) (c' : Nat) W (hW : Below w.heap.size w W) => show Calls Try.prog 44 #[.agg (mrefA a n c (num bs 0 4) (num bs 8 4) (num bs 12 4) S (needE bs S) 2 (adv a c (num bs 4 4)) (n - num bs 4 4) (c - num bs 4 4) a' rs.length c'), .int .i64 (i : Nat)] W fun e w' => e = .returned (entV4 (entW bs i)) ∧ Below W.heap.size W w' from refE_any a n c bs (num bs 0 4) (num bs 8 4) (num bs 12 4) S (needE bs S) 2 (adv a c (num bs 4 4)) (n - num bs 4 4) (c - num bs 4 4) a' rs.length c' i (i : Int) rfl (by decide) W (HH.out.below hW) HL.out h20 (by
    have h1 := HOK.out.fitE
    have h2 := HOK.out.ents
    have h3 := HL.out
    have : (i + 1) * (4 + 2 * 2) ≤ needE bs S * (4 + 2 * 2) := Nat.mul_le_mul_right _ hi
    omega)
  have HLE := Lib.hid (fun (i : Nat) => show (entW bs i).1 ≤ 65535 ∧ (entW bs i).2.1 ≤ 65535 ∧ (entW bs i).2.2.1 ≤ 65535 ∧ (entW bs i).2.2.2 ≤ 65535 from entX_le _ _ _)
  have HSUB := Lib.hid (fun (off : Nat) (hoff : off ≤ n) W (hW : Below w.heap.size w W) => refRead_new (adv a c off) (n - off) (c - off) (bs.drop off) glyphs 2 (glyphs : Int) 2 rfl rfl hg1 hg2 (.inl rfl) W (by rw [← bytesV_drop]; exact (HH.out.below hW).adv c off (by rw [bytesV_length, HL.out]; exact hn)) (by rw [List.length_drop, HL.out]) (by omega) (by omega) (by omega))
  have HMISS := Lib.hid (fun (i : Nat) (hi : i < cntC bs (needE bs S)) (hno : ∀ q, ¬ LkC bs glyphs i q) => show ∀ rs S qs, ¬ COk bs glyphs rs S qs from fun rs' S' qs h => h.miss HOK.out hi hno)
  have HCNT := Lib.hid (cntC_65 bs)
  have HMON := Lib.hid (fun (i j : Nat) (h : i ≤ j) => cntC_mono bs h)
  unfold mrefV mrefA at hrd
  unfold CReadIs mrefV mrefA
  rw [show ((2 : Nat) : Int) = 2 from rfl] at hrd ⊢
  simp only [List.push_toArray, List.cons_append, List.nil_append]
  unfold mrefA at hen
  rw [show ((2 : Nat) : Int) = 2 from rfl] at hen
  have HEN := Lib.hid hen
  clear hen
  have HRD := Lib.hid hrd
  clear h hl hok hQ hrd
  generalize num bs 0 4 = P0 at *
  generalize num bs 4 4 = P4 at *
  generalize num bs 8 4 = P8 at *
  generalize num bs 12 4 = P12 at *
  generalize hNEg : needE bs S = NE at *
  generalize adv a c P4 = A4 at *
  generalize hLR : rs.length = LR at *
  have HNEG := Lib.hid hNEg
  have HLRG := Lib.hid hLR
  clear hNEg hLR
  go_enter Try.func16, Try.ntmps16
  by_cases hbad : Q < 0 ∨ (n : Int) < Q
  · have HNO := Lib.hid (show ∀ rs S qs, ¬ COk bs glyphs rs S qs from fun rs S qs h => by
      have h1 := HQ.out
      have h2 := h.l20
      have h3 := h.at_
      have h4 := HL.out
      unfold qAt at h1
      rw [if_pos (by omega)] at h1
      omega)
    by_cases h0 : Q < 0
    · have d1 : decide (Q < 0) = true := by simpa using h0
      clear hbad h0
      go_wp2_with (first
        | (go_at_call 42; (with_reducible refine (HRD.out _ (by exact blw)).mono ?_); rintro e w1 ⟨a', c', rfl, hM, hb1⟩; have HM := Lib.hid hM; have h1c := bc hb1; have h1f := bf hb1; have h1z := hb1.size; simp only [World.size_alloc] at h1z; have hbw : Below w.heap.size w w1 := (by exact blw); have HBW := Lib.hid hbw; have X4 := Lib.hid (show w1.heap[w.heap.size]? = some (.cells #[.slice none 0 0, .int .i64 0, .int .i64 0, .int .i64 0, .int .i64 0, .int .i64 0, .int .i64 0, .slice none 0 0, .slice none 0 0, .slice none 0 0] 45 (0, 0)) from (hb1.block _ (by simp)).trans ((heap_push _ _ _).trans (if_pos rfl))); clear hM hbw)
        | (go_at_call 43; (with_reducible refine (HU.out _ (by exact blw)).mono ?_); rintro e wu ⟨rfl, rfl⟩))
      have z4 := heap10_at (((balloc (balloc (brefl w1) (.cells #[.slice a n c, .int .i64 (P0 : Nat), .int .i64 (P8 : Nat), .int .i64 (P12 : Nat), .int .i64 (S : Nat), .int .i64 (NE : Nat), .int .i64 2, .slice A4 (n - P4) (c - P4), .slice a' LR c'] 42)) (.cells #[.slice a n c, .int .i64 (P0 : Nat), .int .i64 (P8 : Nat), .int .i64 (P12 : Nat), .int .i64 (S : Nat), .int .i64 (NE : Nat), .int .i64 2, .slice A4 (n - P4) (c - P4), .slice a' LR c', .slice none 0 0] 45)).block _ (by omega)).trans X4.out) (.slice a n c) (.int .i64 (P0 : Nat)) (.int .i64 (P8 : Nat)) (.int .i64 (P12 : Nat)) (.int .i64 (S : Nat)) (.int .i64 (NE : Nat)) (.int .i64 2) (.slice A4 (n - P4) (c - P4)) (.slice a' LR c') (.slice none 0 0)
      have q4 := fun o => cell_of_heap z4 o
      refine bodyPost_ret (v := .tuple #[.agg #[.slice a n c, .int .i64 (P0 : Nat), .int .i64 (P8 : Nat), .int .i64 (P12 : Nat), .int .i64 (S : Nat), .int .i64 (NE : Nat), .int .i64 2, .slice A4 (n - P4) (c - P4), .slice a' LR c', .slice none 0 0], .bool false]) (by simp [results, Try.results16, go_sem, q4]) rfl ?_
      exact ⟨.inr ⟨HNO.out, _, _, _, _, _, _, _, _, _, _, _, _, _, _, _, _, _, _, rfl⟩, below10 (balloc (balloc HBW.out _) _) (Nat.le_refl _) _ _ _ _ _ _ _ _ _ _⟩
    · have d1 : decide (Q < 0) = false := by simpa using h0
      have d2 : decide ((n : Int) < Q) = true := by simp; omega
      clear hbad h0
      go_wp2_with (first
        | (go_at_call 42; (with_reducible refine (HRD.out _ (by exact blw)).mono ?_); rintro e w1 ⟨a', c', rfl, hM, hb1⟩; have HM := Lib.hid hM; have h1c := bc hb1; have h1f := bf hb1; have h1z := hb1.size; simp only [World.size_alloc] at h1z; have hbw : Below w.heap.size w w1 := (by exact blw); have HBW := Lib.hid hbw; have X4 := Lib.hid (show w1.heap[w.heap.size]? = some (.cells #[.slice none 0 0, .int .i64 0, .int .i64 0, .int .i64 0, .int .i64 0, .int .i64 0, .int .i64 0, .slice none 0 0, .slice none 0 0, .slice none 0 0] 45 (0, 0)) from (hb1.block _ (by simp)).trans ((heap_push _ _ _).trans (if_pos rfl))); clear hM hbw)
        | (go_at_call 43; (with_reducible refine (HU.out _ (by exact blw)).mono ?_); rintro e wu ⟨rfl, rfl⟩))
      have z4 := heap10_at (((balloc (balloc (brefl w1) (.cells #[.slice a n c, .int .i64 (P0 : Nat), .int .i64 (P8 : Nat), .int .i64 (P12 : Nat), .int .i64 (S : Nat), .int .i64 (NE : Nat), .int .i64 2, .slice A4 (n - P4) (c - P4), .slice a' LR c'] 42)) (.cells #[.slice a n c, .int .i64 (P0 : Nat), .int .i64 (P8 : Nat), .int .i64 (P12 : Nat), .int .i64 (S : Nat), .int .i64 (NE : Nat), .int .i64 2, .slice A4 (n - P4) (c - P4), .slice a' LR c', .slice none 0 0] 45)).block _ (by omega)).trans X4.out) (.slice a n c) (.int .i64 (P0 : Nat)) (.int .i64 (P8 : Nat)) (.int .i64 (P12 : Nat)) (.int .i64 (S : Nat)) (.int .i64 (NE : Nat)) (.int .i64 2) (.slice A4 (n - P4) (c - P4)) (.slice a' LR c') (.slice none 0 0)
      have q4 := fun o => cell_of_heap z4 o
      refine bodyPost_ret (v := .tuple #[.agg #[.slice a n c, .int .i64 (P0 : Nat), .int .i64 (P8 : Nat), .int .i64 (P12 : Nat), .int .i64 (S : Nat), .int .i64 (NE : Nat), .int .i64 2, .slice A4 (n - P4) (c - P4), .slice a' LR c', .slice none 0 0], .bool false]) (by simp [results, Try.results16, go_sem, q4]) rfl ?_
      exact ⟨.inr ⟨HNO.out, _, _, _, _, _, _, _, _, _, _, _, _, _, _, _, _, _, _, rfl⟩, below10 (balloc (balloc HBW.out _) _) (Nat.le_refl _) _ _ _ _ _ _ _ _ _ _⟩
  obtain ⟨AT, rfl⟩ : ∃ AT : Nat, Q = AT := ⟨Q.toNat, by omega⟩
  have hATn : AT ≤ n := by omega
  have d1 : decide ((AT : Int) < 0) = false := by simp
  have d2 : decide ((n : Int) < (AT : Int)) = false := by simp; omega
  have d2n : decide (n < AT) = false := by simp; omega
  have hQ2 := HQ.out
  unfold qAt at hQ2
  have hl20 : 16 + 4 ≤ bs.length := by
    rcases Nat.lt_or_ge bs.length 20 with g | g
    · rw [if_neg (by omega)] at hQ2; omega
    · exact g
  rw [if_pos hl20] at hQ2
  have HAT := Lib.hid (show num bs 16 4 = AT by omega)
  have HL20 := Lib.hid hl20
  clear hbad hq hQ2 hl20 HQ
  go_wp2_with (first
    | (go_at_call 42; (with_reducible refine (HRD.out _ (by exact blw)).mono ?_); rintro e w1 ⟨a', c', rfl, hM, hb1⟩; have HM := Lib.hid hM; have h1c := bc hb1; have h1f := bf hb1; have h1z := hb1.size; simp only [World.size_alloc] at h1z; have hbw : Below w.heap.size w w1 := (by exact blw); have HBW := Lib.hid hbw; have X4 := Lib.hid (show w1.heap[w.heap.size]? = some (.cells #[.slice none 0 0, .int .i64 0, .int .i64 0, .int .i64 0, .int .i64 0, .int .i64 0, .int .i64 0, .slice none 0 0, .slice none 0 0, .slice none 0 0] 45 (0, 0)) from (hb1.block _ (by simp)).trans ((heap_push _ _ _).trans (if_pos rfl))); clear hM hbw)
    | (go_at_call 43; (with_reducible refine (HU.out _ (by exact blw)).mono ?_); rintro e wu ⟨rfl, rfl⟩))
  obtain ⟨V, hV⟩ : ∃ V, V = (w1.alloc (Obj.cells #[.slice a n c, .int .i64 (P0 : Nat), .int .i64 (P8 : Nat), .int .i64 (P12 : Nat), .int .i64 (S : Nat), .int .i64 (NE : Nat), .int .i64 2, .slice A4 (n - P4) (c - P4), .slice a' LR c'] 42)).alloc (Obj.cells #[.slice a n c, .int .i64 (P0 : Nat), .int .i64 (P8 : Nat), .int .i64 (P12 : Nat), .int .i64 (S : Nat), .int .i64 (NE : Nat), .int .i64 2, .slice A4 (n - P4) (c - P4), .slice a' LR c', .slice none 0 0] 45) := ⟨_, rfl⟩
  have hbV : Below w1.heap.size w1 V := by rw [hV]; exact balloc (balloc (brefl w1) _) _
  have x6 : V.heap[w1.heap.size]? = some (.cells #[.slice a n c, .int .i64 (P0 : Nat), .int .i64 (P8 : Nat), .int .i64 (P12 : Nat), .int .i64 (S : Nat), .int .i64 (NE : Nat), .int .i64 2, .slice A4 (n - P4) (c - P4), .slice a' LR c'] 42 (0, 0)) := by rw [hV, heap_push, if_neg (by simp), heap_push, if_pos rfl]
  have x9 : V.heap[w1.heap.size + 1]? = some (.cells #[.slice a n c, .int .i64 (P0 : Nat), .int .i64 (P8 : Nat), .int .i64 (P12 : Nat), .int .i64 (S : Nat), .int .i64 (NE : Nat), .int .i64 2, .slice A4 (n - P4) (c - P4), .slice a' LR c', .slice none 0 0] 45 (0, 0)) := by rw [hV, heap_push, if_pos (by simp)]
  have hzV : V.heap.size = w1.heap.size + 1 + 1 := by rw [hV]; simp
  rw [← hV]
  have hw01 := HBW.out.size
  have hx40 := X4.out
  have h4w1 := (Array.getElem?_eq_some_iff.1 hx40).1
  have XV4 := Lib.hid ((hbV.block _ h4w1).trans hx40)
  have XV6 := Lib.hid x6
  have XV9 := Lib.hid x9
  have HMV := Lib.hid (((HM.out).mono (show w.heap.size + 1 ≤ _ by simp)).below hbV)
  have HST := Lib.hid (show KReadSt a n c bs glyphs (w1.heap.size + 1) (fun s => #[.slice a n c, .int .i64 (P0 : Nat), .int .i64 (P8 : Nat), .int .i64 (P12 : Nat), .int .i64 (S : Nat), .int .i64 (NE : Nat), .int .i64 2, .slice A4 (n - P4) (c - P4), .slice a' LR c', s]) w V 0 V from ⟨[], none, 0, rfl, x9, ⟨rfl, .inl ⟨rfl, rfl⟩⟩, fun i s h => by simp at h, HBW.out.trans (hbV.mono hw01), KeptO.refl _ _⟩)
  clear hV hbV x6 x9 hx40 h1c h1f hb1
  go_loopw [10] (fun ti wr => ∃ i : Nat, i ≤ NE ∧ ti = .int .i64 (i : Nat) ∧ KReadSt a n c bs glyphs (w1.heap.size + 1) (fun s => #[.slice a n c, .int .i64 (P0 : Nat), .int .i64 (P8 : Nat), .int .i64 (P12 : Nat), .int .i64 (S : Nat), .int .i64 (NE : Nat), .int .i64 2, .slice A4 (n - P4) (c - P4), .slice a' LR c', s]) w V (cntC bs i) wr) (fun ti _ => NE - (RowKit.intOf ti).toNat)
  case atStart => exact ⟨0, Nat.zero_le _, rfl, HST.out⟩
  case round =>
    obtain ⟨i, hi, rfl, hst⟩ := hrel
    rename World => wr
    have HSTR := Lib.hid hst
    obtain ⟨subs, aS, cS, hsl, k9, kr, ks, kb, kk⟩ := hst
    have x6 := (kk.2 _ _ _ _ XV6.out (fun h => by rcases h with h | h; (omega); exact absurd h (by decide))).trans XV6.out
    have q6 := fun o => cell_of_heap x6 o
    have l6 := (Array.getElem?_eq_some_iff.1 x6).1
    by_cases hlt : i < NE
    · have hen := HEN.out i hlt a' c' wr kb
      have hle := HLE.out i
      have hcn : cntC bs (i + 1) = max (max (cntC bs i) (cwX (entW bs i).2.2.1)) (cwX (entW bs i).2.2.2) := rfl
      have hcm : cntC bs (i + 1) ≤ cntC bs NE := HMON.out _ _ hlt
      have hc6 := HCNT.out NE
      generalize entW bs i = E at *
      obtain ⟨e0, F, A, Bv⟩ := E
      simp only [entV4] at hen
      simp only at hle hcn
      obtain ⟨_, _, hA6, hB6⟩ := hle
      have HENC := Lib.hid hen
      have HCN := Lib.hid hcn
      clear hen hcn kr ks k9 x6
      generalize hc0 : cntC bs i = c0 at *
      obtain ⟨cA, hcA⟩ : ∃ cA, cA = max c0 (cwX A) := ⟨_, rfl⟩
      obtain ⟨cB, hcB⟩ : ∃ cB, cB = max cA (cwX Bv) := ⟨_, rfl⟩
      have HCA := Lib.hid hcA
      have HCB := Lib.hid hcB
      have hcBn : cB ≤ cntC bs NE := by have := HCN.out; omega
      have hca0 : c0 ≤ cA := by omega
      have hcab : cA ≤ cB := by omega
      have hcaw : cwX A ≤ cA := by omega
      have hcbw : cwX Bv ≤ cB := by omega
      have hcau : cA = c0 ∨ cA = cwX A := by omega
      have hcbu : cB = cA ∨ cB = cwX Bv := by omega
      clear hcA hcB
      go_wp2_with (go_at_call 44; (with_reducible refine HENC.out.mono ?_); rintro e w2 ⟨rfl, hb2⟩)
      obtain ⟨V2, hV2⟩ : ∃ V2, V2 = w2.alloc (Obj.cells #[.int .i64 (e0 : Nat), .int .i64 (F : Nat), .int .i64 (A : Nat), .int .i64 (Bv : Nat)] 60) := ⟨_, rfl⟩
      have hbV2 : Below wr.heap.size wr V2 := by rw [hV2]; exact balloc hb2 _
      have x11 : V2.heap[w2.heap.size]? = some (.cells #[.int .i64 (e0 : Nat), .int .i64 (F : Nat), .int .i64 (A : Nat), .int .i64 (Bv : Nat)] 60 (0, 0)) := by rw [hV2]; exact (heap_push _ _ _).trans (if_pos rfl)
      rw [← hV2]
      have hwr2 : wr.heap.size ≤ w2.heap.size := hb2.size
      have hw1r : w1.heap.size + 1 < wr.heap.size := by have := kk.1; omega
      have HSTV := Lib.hid (HSTR.out.below hbV2)
      have HKV2 := Lib.hid HSTV.out.kept
      have X11 := Lib.hid x11
      have XV24 := Lib.hid ((HKV2.out.2 _ _ _ _ XV4.out (fun h => by rcases h with h | h; (omega); exact absurd h (by decide))).trans XV4.out)
      clear hV2 hbV2 x11 hb2
      go_loopw [12] (fun tk wr2 => ∃ k : Nat, k ≤ 2 ∧ tk = .int .i64 (k : Nat) ∧ KReadSt a n c bs glyphs (w1.heap.size + 1) (fun s => #[.slice a n c, .int .i64 (P0 : Nat), .int .i64 (P8 : Nat), .int .i64 (P12 : Nat), .int .i64 (S : Nat), .int .i64 (NE : Nat), .int .i64 2, .slice A4 (n - P4) (c - P4), .slice a' LR c', s]) w V2 (if k = 0 then c0 else if k = 1 then cA else cB) wr2) (fun tk _ => 2 - (RowKit.intOf tk).toNat)
      case atStart => exact ⟨0, by omega, rfl, HSTV.out.rebase⟩
      case round =>
        obtain ⟨k, hk, rfl, hst2⟩ := hrel
        rename World => wr2
        have hkk := hst2.kept
        have x11 := (hkk.2 _ _ _ _ X11.out (fun h => by rcases h with h | h; (omega); exact absurd h (by decide))).trans X11.out
        have : k = 0 ∨ k = 1 ∨ k = 2 := by omega
        rcases this with rfl | rfl | rfl
        · rw [if_pos rfl] at hst2
          rw [show ((0 : Nat) : Int) = 0 from rfl]
          have HST2 := Lib.hid hst2
          clear hst2 hkk
          have q11 := fun o => cell_of_heap x11 o
          have l11 := (Array.getElem?_eq_some_iff.1 x11).1
          go_wp2_with fail
          go_loopw [14] (fun _ wr3 => ∃ q, c0 ≤ q ∧ q ≤ cA ∧ KReadSt a n c bs glyphs (w1.heap.size + 1) (fun s => #[.slice a n c, .int .i64 (P0 : Nat), .int .i64 (P8 : Nat), .int .i64 (P12 : Nat), .int .i64 (S : Nat), .int .i64 (NE : Nat), .int .i64 2, .slice A4 (n - P4) (c - P4), .slice a' LR c', s]) w V2 q wr3) (fun _ wr3 => 70000 - subsN (w1.heap.size + 1) wr3)
          case atStart => exact ⟨c0, Nat.le_refl _, by omega, HST2.out⟩
          case round =>
            obtain ⟨q, hq1, hq2, hst3⟩ := hrel
            rename World => wr3
            have HST3 := Lib.hid hst3
            obtain ⟨subs, aS, cS, hsl, k9, kr, ks, kb, kk⟩ := hst3
            have q9 := fun o => cell_of_heap k9 o
            have f9 := fun o => froz_of_heap k9 o
            have l9 := (Array.getElem?_eq_some_iff.1 k9).1
            have hN9 := subsN_is k9
            by_cases hx : A = 65535
            · obtain rfl : cA = q := by have : cwX A = 0 := (by unfold cwX; rw [if_pos hx]); omega
              have dx : ((A : Int) == 65535) = true := by simp; omega
              have dy : ((A : Int) != 65535) = false := by simp; omega
              clear hx kr ks kb kk
              go_wp2_with fail
              go_roundw
              case rel => exact ⟨1, by omega, by go_num, HST3.out⟩
              case measure => simp only [RowKit.intOf]; omega
            have dx : ((A : Int) == 65535) = false := by simp; omega
            have dy : ((A : Int) != 65535) = true := by simp; omega
            have hcw : cwX A = A + 1 := by unfold cwX; rw [if_neg hx]
            by_cases hqx : q ≤ A
            case neg =>
              obtain rfl : cA = q := by omega
              have dq : decide (((cA : Nat) : Int) ≤ (A : Int)) = false := by simp; omega
              have dqn : decide (cA ≤ A) = false := by simp; omega
              clear hx kr ks kb kk
              go_wp2_with fail
              go_roundw
              case rel => exact ⟨1, by omega, by go_num, HST3.out⟩
              case measure => simp only [RowKit.intOf]; omega
            have dq : decide ((q : Int) ≤ (A : Int)) = true := by simp; omega
            have dqn : decide (q ≤ A) = true := by simp; omega
            clear hx
            have hq65 : q ≤ 65535 := by omega
            have HNOX := Lib.hid (fun (hno : ∀ r, ¬ LkC bs glyphs q r) => HMISS.out q (by omega) hno)
            have HUQ3 := Lib.hid (fun W (hW : Below w.heap.size w W) (z : Int) (hz : z = (AT : Int) + 4 * (q : Int)) => HUQ.out (AT + 4 * q) (by omega) W hW z (by omega))
            obtain ⟨Z, hZ⟩ : ∃ Z, qAt bs (AT + 4 * q) = Z := ⟨_, rfl⟩
            have hZb := qAt_bound bs (AT + 4 * q)
            have huq3 := HUQ3.out
            rw [hZ] at huq3 hZb
            have HUQ3 := Lib.hid huq3
            have HZ := Lib.hid hZ
            clear hZ huq3
            have hx4 := (kk.2 _ _ _ _ XV24.out (fun h => by rcases h with h | h; (omega); exact absurd h (by decide))).trans XV24.out
            have f4 := fun o => froz_of_heap hx4 o
            have q40 := fun o => cell_of_heap hx4 o
            have l4 := (Array.getElem?_eq_some_iff.1 hx4).1
            by_cases hZ0 : Z < 0
            · have HNO := Lib.hid (HNOX.out fun r hr => by
                have h1 := HZ.out
                have h2 := hr.at_
                rw [HAT.out] at h2
                unfold qAt at h1
                rw [if_pos h2] at h1
                omega)
              have dz : decide (Z < 0) = true := by simpa using hZ0
              clear hZ0
              go_wp2_with (go_at_call 43; (with_reducible refine (HUQ3.out _ kb _ (by omega)).mono ?_); rintro e wu ⟨rfl, rfl⟩)
              have z4 := heap10_at (hx4) (.slice a n c) (.int .i64 (P0 : Nat)) (.int .i64 (P8 : Nat)) (.int .i64 (P12 : Nat)) (.int .i64 (S : Nat)) (.int .i64 (NE : Nat)) (.int .i64 2) (.slice A4 (n - P4) (c - P4)) (.slice a' LR c') (.slice aS q cS)
              have q4 := fun o => cell_of_heap z4 o
              refine bodyPost_ret (v := .tuple #[.agg #[.slice a n c, .int .i64 (P0 : Nat), .int .i64 (P8 : Nat), .int .i64 (P12 : Nat), .int .i64 (S : Nat), .int .i64 (NE : Nat), .int .i64 2, .slice A4 (n - P4) (c - P4), .slice a' LR c', .slice aS q cS], .bool false]) (by simp [results, Try.results16, go_sem, q4]) rfl ?_
              exact ⟨.inr ⟨HNO.out, _, _, _, _, _, _, _, _, _, _, _, _, _, _, _, _, _, _, rfl⟩, below10 (kb) (Nat.le_refl _) _ _ _ _ _ _ _ _ _ _⟩
            have dz : decide (Z < 0) = false := by simpa using hZ0
            by_cases hZn : (n : Int) - (AT : Int) < Z
            · have HNO := Lib.hid (HNOX.out fun r hr => by
                have h1 := HZ.out
                have h2 := hr.at_
                have h3 := hr.off
                have h4 := HL.out
                unfold offC at h3
                rw [HAT.out] at h2 h3
                unfold qAt at h1
                rw [if_pos h2] at h1
                omega)
              have dn : decide ((n : Int) - (AT : Int) < Z) = true := by simpa using hZn
              clear hZ0 hZn
              go_wp2_with (go_at_call 43; (with_reducible refine (HUQ3.out _ kb _ (by omega)).mono ?_); rintro e wu ⟨rfl, rfl⟩)
              have z4 := heap10_at (hx4) (.slice a n c) (.int .i64 (P0 : Nat)) (.int .i64 (P8 : Nat)) (.int .i64 (P12 : Nat)) (.int .i64 (S : Nat)) (.int .i64 (NE : Nat)) (.int .i64 2) (.slice A4 (n - P4) (c - P4)) (.slice a' LR c') (.slice aS q cS)
              have q4 := fun o => cell_of_heap z4 o
              refine bodyPost_ret (v := .tuple #[.agg #[.slice a n c, .int .i64 (P0 : Nat), .int .i64 (P8 : Nat), .int .i64 (P12 : Nat), .int .i64 (S : Nat), .int .i64 (NE : Nat), .int .i64 2, .slice A4 (n - P4) (c - P4), .slice a' LR c', .slice aS q cS], .bool false]) (by simp [results, Try.results16, go_sem, q4]) rfl ?_
              exact ⟨.inr ⟨HNO.out, _, _, _, _, _, _, _, _, _, _, _, _, _, _, _, _, _, _, rfl⟩, below10 (kb) (Nat.le_refl _) _ _ _ _ _ _ _ _ _ _⟩
            have dn : decide ((n : Int) - (AT : Int) < Z) = false := by simpa using hZn
            obtain ⟨Zn, rfl⟩ : ∃ Zn : Nat, Z = Zn := ⟨Z.toNat, by omega⟩
            have hin4 : AT + 4 * q + 4 ≤ bs.length := by
              have h1 := HZ.out
              unfold qAt at h1
              by_cases g : AT + 4 * q + 4 ≤ bs.length
              · exact g
              · rw [if_neg g] at h1; omega
            have hZe : num bs (AT + 4 * q) 4 = Zn := by
              have h1 := HZ.out
              unfold qAt at h1
              rw [if_pos hin4] at h1
              omega
            obtain ⟨off, hoff⟩ : ∃ off, off = AT + Zn := ⟨_, rfl⟩
            have hoffz : (AT : Int) + (Zn : Int) = (off : Int) := by omega
            have hoffn : off ≤ n := by omega
            have HOFF := Lib.hid (show offC bs q = off from by unfold offC; rw [HAT.out, hZe, hoff])
            have HIN4 := Lib.hid hin4
            clear hZ0 hZn hin4 hZe hoff HZ
            have dofn : decide (n < off) = false := by simp; omega
            have hsb := HSUB.out off hoffn wr3 kb
            by_cases hco : c = off
            case pos =>
              have hAd : adv a c off = a := by unfold adv; rw [if_pos hco]
              have hco1 : (c = off) = True := eq_true hco
              clear hco
              have HAD := Lib.hid hAd
              rw [hAd] at hsb
              have HSB := Lib.hid hsb
              clear hAd hsb
              go_wp2_with (go_at_call 43; (with_reducible refine (HUQ3.out _ kb _ (by omega)).mono ?_); rintro e wu ⟨rfl, rfl⟩)
              refine HSB.out.mono ?_
              rintro e w5 ⟨(⟨r, a5, c5, hlk, rfl, hn5, _, _, h65⟩ | ⟨hno5, rfl⟩), hb5⟩
              case inr =>
                have HNO := Lib.hid (HNOX.out fun r hr => hno5 r (by have := hr.ok; rwa [HOFF.out] at this))
                have Y9 := Lib.hid ((hb5.block _ l9).trans k9)
                have Y4 := Lib.hid ((hb5.block _ l4).trans hx4)
                have HB5 := Lib.hid (kb.trans (hb5.mono kb.size))
                have l95 := (Array.getElem?_eq_some_iff.1 Y9.out).1
                have l45 := (Array.getElem?_eq_some_iff.1 Y4.out).1
                clear hno5 hb5 kr ks kk kb k9 hx4 q9 f9 f4 q40 hN9 l9 l4
                go_wp2_with (first
                  | (refine wpAllocK rfl 40 rfl _ alloc06 ?_; (try dsimp only [Act.put]); (try simp only [List.setIfInBounds_toArray, List.set_cons_succ, List.set_cons_zero]); refine wpStoreK rfl 40 _ _ rfl w5.heap.size _ #[.slice none 0 0, .slice none 0 0] rfl rfl ((heap_push _ _ _).trans (if_pos rfl)) size06 rfl (by simp [Value.oneCell']) ?_; intro V5 x15 hk15 hz15 hb15; have hbV5 : Below w5.heap.size w5 V5 := (balloc (brefl w5) _).trans hb15; have hz5 : V5.heap.size = w5.heap.size + 1 := (by simpa using hz15); have z9 := (hbV5.block _ l95).trans Y9.out; have z4 := (hbV5.block _ l45).trans Y4.out; have Z4 := Lib.hid z4; have q9 := fun o => cell_of_heap z9 o; have q40 := fun o => cell_of_heap z4 o; have f4 := fun o => froz_of_heap z4 o; have l9 := (Array.getElem?_eq_some_iff.1 z9).1; have l4 := (Array.getElem?_eq_some_iff.1 z4).1; have HBV := Lib.hid (HB5.out.trans (hbV5.mono HB5.out.size)); clear x15 hk15 hz15 hb15 hbV5 z9 z4 hz5; (try dsimp only [Act.put]); (try simp only [List.setIfInBounds_toArray, List.set_cons_succ, List.set_cons_zero])))
                have z4 := heap10_at Z4.out (.slice a n c) (.int .i64 (P0 : Nat)) (.int .i64 (P8 : Nat)) (.int .i64 (P12 : Nat)) (.int .i64 (S : Nat)) (.int .i64 (NE : Nat)) (.int .i64 2) (.slice A4 (n - P4) (c - P4)) (.slice a' LR c') (.slice aS q cS)
                have q46 := fun o => cell_of_heap z4 o
                refine bodyPost_ret (v := .tuple #[.agg #[.slice a n c, .int .i64 (P0 : Nat), .int .i64 (P8 : Nat), .int .i64 (P12 : Nat), .int .i64 (S : Nat), .int .i64 (NE : Nat), .int .i64 2, .slice A4 (n - P4) (c - P4), .slice a' LR c', .slice aS q cS], .bool false]) (by simp [results, Try.results16, go_sem, q46]) rfl ?_
                exact ⟨.inr ⟨HNO.out, _, _, _, _, _, _, _, _, _, _, _, _, _, _, _, _, _, _, rfl⟩, below10 HBV.out (Nat.le_refl _) _ _ _ _ _ _ _ _ _ _⟩
              obtain ⟨rl, hrl⟩ : ∃ rl, rl = r.length := ⟨_, rfl⟩
              rw [← hrl]
              have HRL := Lib.hid hrl
              have Y9 := Lib.hid ((hb5.block _ l9).trans k9)
              have l95 := (Array.getElem?_eq_some_iff.1 Y9.out).1
              have hg9 : w1.heap.size + 1 + 1 ≤ wr3.heap.size := l9
              have h5z := hb5.size
              have hwb := kb.size
              have HLK := Lib.hid (show LkC bs glyphs q r from ⟨by rw [HAT.out]; exact HIN4.out, by rw [HOFF.out, HL.out]; exact hoffn, by rw [HOFF.out]; exact hlk⟩)
              have HKR := Lib.hid kr
              have HKB := Lib.hid kb
              have HKK := Lib.hid kk
              have HKS := Lib.hid ks
              have HK9 := Lib.hid k9
              have HSN := Lib.hid (hn5.mono hg9)
              have HB5 := Lib.hid hb5
              have HN9 := Lib.hid hN9
              clear hrl kr kk ks kb k9 hn5 hlk hb5 q9 f9 hx4 f4 q40 hN9
              go_wp2_with (first
                | (refine wpAllocK rfl 40 rfl _ alloc06 ?_; (try dsimp only [Act.put]); (try simp only [List.setIfInBounds_toArray, List.set_cons_succ, List.set_cons_zero]); refine wpStoreK rfl 40 _ _ rfl w5.heap.size _ #[.slice (a) (n - off) (c - off), .slice a5 rl c5] rfl rfl ((heap_push _ _ _).trans (if_pos rfl)) size06 rfl (by simp [Value.oneCell']) ?_; intro V5 x15 hk15 hz15 hb15; have hbV5 : Below w5.heap.size w5 V5 := (balloc (brefl w5) _).trans hb15; have hz5 : V5.heap.size = w5.heap.size + 1 := (by simpa using hz15); have Z9 := Lib.hid ((hbV5.block _ l95).trans Y9.out); have q9 := fun o => cell_of_heap Z9.out o; have l9V := (Array.getElem?_eq_some_iff.1 Z9.out).1; have q15 := fun o => cell_of_heap x15 o; have l15 := (Array.getElem?_eq_some_iff.1 x15).1; have HV5 := Lib.hid (HB5.out.trans (hbV5.mono h5z)); have HSN5 := Lib.hid (HSN.out.below hbV5); clear x15 hk15 hz15 hb15 hbV5 hz5; (try dsimp only [Act.put]); (try simp only [List.setIfInBounds_toArray, List.set_cons_succ, List.set_cons_zero]))
                | (at_builtin
                   refine wpAppL rfl _ _ 43 rfl (w1.heap.size + 1 + 1) 40 (.agg #[.slice none 0 0, .slice none 0 0]) 2 48 Try.underlying43 tb_info rfl (by decide) _ q (subsV subs) rfl (owns_below HKR.out (balloc HV5.out _) (Nat.le_refl _)) ⟨V5.heap.size, 0, none⟩ 1 1 [.slice (a) (n - off) (c - off), .slice a5 rl c5] rfl rfl (has_alloc V5 _ _) (fun u hu => by simp at hu; rcases hu with rfl | rfl <;> rfl) (by unfold maxLen; omega) (by omega) (by simp only [World.size_alloc]; omega) ?_
                   intro a6 c6 w6 hown6 t61 t62 t63 hb6 hg6
                   have hbW : Below wr3.heap.size wr3 (V5.alloc (.cells #[.slice (a) (n - off) (c - off), .slice a5 rl c5] 40)) := balloc HV5.out _
                   have hw9 := (hbW.block _ l9).trans HK9.out
                   have hy9 := (hb6.block _ (Nat.lt_succ_self _)).trans hw9
                   have q9 := fun o => cell_of_heap hy9 o
                   have f9 := fun o => froz_of_heap hy9 o
                   have l96 := (Array.getElem?_eq_some_iff.1 hy9).1
                   have HMORE := Lib.hid (KReadSt.more (mc := fun s => #[.slice a n c, .int .i64 (P0 : Nat), .int .i64 (P8 : Nat), .int .i64 (P12 : Nat), .int .i64 (S : Nat), .int .i64 (NE : Nat), .int .i64 2, .slice A4 (n - P4) (c - P4), .slice a' LR c', s]) hsl ⟨a, n - off, c - off, bs.drop off, a5, c5, r⟩ (by omega) hw9 (owns_below HKR.out hbW (Nat.le_refl _)) (fun i s h => ⟨(HKS.out i s h).1, (HKS.out i s h).2.below hbW⟩) (HKB.out.trans (hbW.mono hwb)) (HKK.out.trans (KeptO.below hbW)) ⟨by rw [HOFF.out]; exact HAD.out.symm, by rw [HOFF.out], by rw [HOFF.out], by rw [HOFF.out], HLK.out⟩ (HSN5.out.below (balloc (brefl V5) _)) (by have := hown6; rw [HRL.out] at this; exact this) hb6 hg6 (fun x y => by simp))
                   clear hy9 hw9 hbW hown6 t61 t62 t63 hb6 hg6))
              go_roundw
              case rel => exact ⟨q + 1, by omega, by omega, HMORE.out⟩
              case measure => obtain ⟨_, _, _, _, hh, _⟩ := HMORE.out; have h1 := subsN_is hh; have h2 := HN9.out; omega
            have hAd : adv a c off = a.map (fun x => x.add off) := by unfold adv; rw [if_neg hco]
            have HAD := Lib.hid hAd
            rw [hAd] at hsb
            have HSB := Lib.hid hsb
            clear hAd hsb
            go_wp2_with (go_at_call 43; (with_reducible refine (HUQ3.out _ kb _ (by omega)).mono ?_); rintro e wu ⟨rfl, rfl⟩)
            refine HSB.out.mono ?_
            rintro e w5 ⟨(⟨r, a5, c5, hlk, rfl, hn5, _, _, h65⟩ | ⟨hno5, rfl⟩), hb5⟩
            case inr =>
              have HNO := Lib.hid (HNOX.out fun r hr => hno5 r (by have := hr.ok; rwa [HOFF.out] at this))
              have Y9 := Lib.hid ((hb5.block _ l9).trans k9)
              have Y4 := Lib.hid ((hb5.block _ l4).trans hx4)
              have HB5 := Lib.hid (kb.trans (hb5.mono kb.size))
              have l95 := (Array.getElem?_eq_some_iff.1 Y9.out).1
              have l45 := (Array.getElem?_eq_some_iff.1 Y4.out).1
              clear hno5 hb5 kr ks kk kb k9 hx4 q9 f9 f4 q40 hN9 l9 l4
              go_wp2_with (first
                | (refine wpAllocK rfl 40 rfl _ alloc06 ?_; (try dsimp only [Act.put]); (try simp only [List.setIfInBounds_toArray, List.set_cons_succ, List.set_cons_zero]); refine wpStoreK rfl 40 _ _ rfl w5.heap.size _ #[.slice none 0 0, .slice none 0 0] rfl rfl ((heap_push _ _ _).trans (if_pos rfl)) size06 rfl (by simp [Value.oneCell']) ?_; intro V5 x15 hk15 hz15 hb15; have hbV5 : Below w5.heap.size w5 V5 := (balloc (brefl w5) _).trans hb15; have hz5 : V5.heap.size = w5.heap.size + 1 := (by simpa using hz15); have z9 := (hbV5.block _ l95).trans Y9.out; have z4 := (hbV5.block _ l45).trans Y4.out; have Z4 := Lib.hid z4; have q9 := fun o => cell_of_heap z9 o; have q40 := fun o => cell_of_heap z4 o; have f4 := fun o => froz_of_heap z4 o; have l9 := (Array.getElem?_eq_some_iff.1 z9).1; have l4 := (Array.getElem?_eq_some_iff.1 z4).1; have HBV := Lib.hid (HB5.out.trans (hbV5.mono HB5.out.size)); clear x15 hk15 hz15 hb15 hbV5 z9 z4 hz5; (try dsimp only [Act.put]); (try simp only [List.setIfInBounds_toArray, List.set_cons_succ, List.set_cons_zero])))
              have z4 := heap10_at Z4.out (.slice a n c) (.int .i64 (P0 : Nat)) (.int .i64 (P8 : Nat)) (.int .i64 (P12 : Nat)) (.int .i64 (S : Nat)) (.int .i64 (NE : Nat)) (.int .i64 2) (.slice A4 (n - P4) (c - P4)) (.slice a' LR c') (.slice aS q cS)
              have q46 := fun o => cell_of_heap z4 o
              refine bodyPost_ret (v := .tuple #[.agg #[.slice a n c, .int .i64 (P0 : Nat), .int .i64 (P8 : Nat), .int .i64 (P12 : Nat), .int .i64 (S : Nat), .int .i64 (NE : Nat), .int .i64 2, .slice A4 (n - P4) (c - P4), .slice a' LR c', .slice aS q cS], .bool false]) (by simp [results, Try.results16, go_sem, q46]) rfl ?_
              exact ⟨.inr ⟨HNO.out, _, _, _, _, _, _, _, _, _, _, _, _, _, _, _, _, _, _, rfl⟩, below10 HBV.out (Nat.le_refl _) _ _ _ _ _ _ _ _ _ _⟩
            obtain ⟨rl, hrl⟩ : ∃ rl, rl = r.length := ⟨_, rfl⟩
            rw [← hrl]
            have HRL := Lib.hid hrl
            have Y9 := Lib.hid ((hb5.block _ l9).trans k9)
            have l95 := (Array.getElem?_eq_some_iff.1 Y9.out).1
            have hg9 : w1.heap.size + 1 + 1 ≤ wr3.heap.size := l9
            have h5z := hb5.size
            have hwb := kb.size
            have HLK := Lib.hid (show LkC bs glyphs q r from ⟨by rw [HAT.out]; exact HIN4.out, by rw [HOFF.out, HL.out]; exact hoffn, by rw [HOFF.out]; exact hlk⟩)
            have HKR := Lib.hid kr
            have HKB := Lib.hid kb
            have HKK := Lib.hid kk
            have HKS := Lib.hid ks
            have HK9 := Lib.hid k9
            have HSN := Lib.hid (hn5.mono hg9)
            have HB5 := Lib.hid hb5
            have HN9 := Lib.hid hN9
            clear hrl kr kk ks kb k9 hn5 hlk hb5 q9 f9 hx4 f4 q40 hN9
            go_wp2_with (first
              | (refine wpAllocK rfl 40 rfl _ alloc06 ?_; (try dsimp only [Act.put]); (try simp only [List.setIfInBounds_toArray, List.set_cons_succ, List.set_cons_zero]); refine wpStoreK rfl 40 _ _ rfl w5.heap.size _ #[.slice (a.map (fun x => x.add off)) (n - off) (c - off), .slice a5 rl c5] rfl rfl ((heap_push _ _ _).trans (if_pos rfl)) size06 rfl (by simp [Value.oneCell']) ?_; intro V5 x15 hk15 hz15 hb15; have hbV5 : Below w5.heap.size w5 V5 := (balloc (brefl w5) _).trans hb15; have hz5 : V5.heap.size = w5.heap.size + 1 := (by simpa using hz15); have Z9 := Lib.hid ((hbV5.block _ l95).trans Y9.out); have q9 := fun o => cell_of_heap Z9.out o; have l9V := (Array.getElem?_eq_some_iff.1 Z9.out).1; have q15 := fun o => cell_of_heap x15 o; have l15 := (Array.getElem?_eq_some_iff.1 x15).1; have HV5 := Lib.hid (HB5.out.trans (hbV5.mono h5z)); have HSN5 := Lib.hid (HSN.out.below hbV5); clear x15 hk15 hz15 hb15 hbV5 hz5; (try dsimp only [Act.put]); (try simp only [List.setIfInBounds_toArray, List.set_cons_succ, List.set_cons_zero]))
              | (at_builtin
                 refine wpAppL rfl _ _ 43 rfl (w1.heap.size + 1 + 1) 40 (.agg #[.slice none 0 0, .slice none 0 0]) 2 48 Try.underlying43 tb_info rfl (by decide) _ q (subsV subs) rfl (owns_below HKR.out (balloc HV5.out _) (Nat.le_refl _)) ⟨V5.heap.size, 0, none⟩ 1 1 [.slice (a.map (fun x => x.add off)) (n - off) (c - off), .slice a5 rl c5] rfl rfl (has_alloc V5 _ _) (fun u hu => by simp at hu; rcases hu with rfl | rfl <;> rfl) (by unfold maxLen; omega) (by omega) (by simp only [World.size_alloc]; omega) ?_
                 intro a6 c6 w6 hown6 t61 t62 t63 hb6 hg6
                 have hbW : Below wr3.heap.size wr3 (V5.alloc (.cells #[.slice (a.map (fun x => x.add off)) (n - off) (c - off), .slice a5 rl c5] 40)) := balloc HV5.out _
                 have hw9 := (hbW.block _ l9).trans HK9.out
                 have hy9 := (hb6.block _ (Nat.lt_succ_self _)).trans hw9
                 have q9 := fun o => cell_of_heap hy9 o
                 have f9 := fun o => froz_of_heap hy9 o
                 have l96 := (Array.getElem?_eq_some_iff.1 hy9).1
                 have HMORE := Lib.hid (KReadSt.more (mc := fun s => #[.slice a n c, .int .i64 (P0 : Nat), .int .i64 (P8 : Nat), .int .i64 (P12 : Nat), .int .i64 (S : Nat), .int .i64 (NE : Nat), .int .i64 2, .slice A4 (n - P4) (c - P4), .slice a' LR c', s]) hsl ⟨a.map (fun x => x.add off), n - off, c - off, bs.drop off, a5, c5, r⟩ (by omega) hw9 (owns_below HKR.out hbW (Nat.le_refl _)) (fun i s h => ⟨(HKS.out i s h).1, (HKS.out i s h).2.below hbW⟩) (HKB.out.trans (hbW.mono hwb)) (HKK.out.trans (KeptO.below hbW)) ⟨by rw [HOFF.out]; exact HAD.out.symm, by rw [HOFF.out], by rw [HOFF.out], by rw [HOFF.out], HLK.out⟩ (HSN5.out.below (balloc (brefl V5) _)) (by have := hown6; rw [HRL.out] at this; exact this) hb6 hg6 (fun x y => by simp))
                 clear hy9 hw9 hbW hown6 t61 t62 t63 hb6 hg6))
            go_roundw
            case rel => exact ⟨q + 1, by omega, by omega, HMORE.out⟩
            case measure => obtain ⟨_, _, _, _, hh, _⟩ := HMORE.out; have h1 := subsN_is hh; have h2 := HN9.out; omega
        · rw [if_neg (by decide), if_pos rfl] at hst2
          rw [show ((1 : Nat) : Int) = 1 from rfl]
          have HST2 := Lib.hid hst2
          clear hst2 hkk
          have q11 := fun o => cell_of_heap x11 o
          have l11 := (Array.getElem?_eq_some_iff.1 x11).1
          go_wp2_with fail
          go_loopw [14] (fun _ wr3 => ∃ q, cA ≤ q ∧ q ≤ cB ∧ KReadSt a n c bs glyphs (w1.heap.size + 1) (fun s => #[.slice a n c, .int .i64 (P0 : Nat), .int .i64 (P8 : Nat), .int .i64 (P12 : Nat), .int .i64 (S : Nat), .int .i64 (NE : Nat), .int .i64 2, .slice A4 (n - P4) (c - P4), .slice a' LR c', s]) w V2 q wr3) (fun _ wr3 => 70000 - subsN (w1.heap.size + 1) wr3)
          case atStart => exact ⟨cA, Nat.le_refl _, by omega, HST2.out⟩
          case round =>
            obtain ⟨q, hq1, hq2, hst3⟩ := hrel
            rename World => wr3
            have HST3 := Lib.hid hst3
            obtain ⟨subs, aS, cS, hsl, k9, kr, ks, kb, kk⟩ := hst3
            have q9 := fun o => cell_of_heap k9 o
            have f9 := fun o => froz_of_heap k9 o
            have l9 := (Array.getElem?_eq_some_iff.1 k9).1
            have hN9 := subsN_is k9
            by_cases hx : Bv = 65535
            · obtain rfl : cB = q := by have : cwX Bv = 0 := (by unfold cwX; rw [if_pos hx]); omega
              have dx : ((Bv : Int) == 65535) = true := by simp; omega
              have dy : ((Bv : Int) != 65535) = false := by simp; omega
              clear hx kr ks kb kk
              go_wp2_with fail
              go_roundw
              case rel => exact ⟨2, by omega, by go_num, HST3.out⟩
              case measure => simp only [RowKit.intOf]; omega
            have dx : ((Bv : Int) == 65535) = false := by simp; omega
            have dy : ((Bv : Int) != 65535) = true := by simp; omega
            have hcw : cwX Bv = Bv + 1 := by unfold cwX; rw [if_neg hx]
            by_cases hqx : q ≤ Bv
            case neg =>
              obtain rfl : cB = q := by omega
              have dq : decide (((cB : Nat) : Int) ≤ (Bv : Int)) = false := by simp; omega
              have dqn : decide (cB ≤ Bv) = false := by simp; omega
              clear hx kr ks kb kk
              go_wp2_with fail
              go_roundw
              case rel => exact ⟨2, by omega, by go_num, HST3.out⟩
              case measure => simp only [RowKit.intOf]; omega
            have dq : decide ((q : Int) ≤ (Bv : Int)) = true := by simp; omega
            have dqn : decide (q ≤ Bv) = true := by simp; omega
            clear hx
            have hq65 : q ≤ 65535 := by omega
            have HNOX := Lib.hid (fun (hno : ∀ r, ¬ LkC bs glyphs q r) => HMISS.out q (by omega) hno)
            have HUQ3 := Lib.hid (fun W (hW : Below w.heap.size w W) (z : Int) (hz : z = (AT : Int) + 4 * (q : Int)) => HUQ.out (AT + 4 * q) (by omega) W hW z (by omega))
            obtain ⟨Z, hZ⟩ : ∃ Z, qAt bs (AT + 4 * q) = Z := ⟨_, rfl⟩
            have hZb := qAt_bound bs (AT + 4 * q)
            have huq3 := HUQ3.out
            rw [hZ] at huq3 hZb
            have HUQ3 := Lib.hid huq3
            have HZ := Lib.hid hZ
            clear hZ huq3
            have hx4 := (kk.2 _ _ _ _ XV24.out (fun h => by rcases h with h | h; (omega); exact absurd h (by decide))).trans XV24.out
            have f4 := fun o => froz_of_heap hx4 o
            have q40 := fun o => cell_of_heap hx4 o
            have l4 := (Array.getElem?_eq_some_iff.1 hx4).1
            by_cases hZ0 : Z < 0
            · have HNO := Lib.hid (HNOX.out fun r hr => by
                have h1 := HZ.out
                have h2 := hr.at_
                rw [HAT.out] at h2
                unfold qAt at h1
                rw [if_pos h2] at h1
                omega)
              have dz : decide (Z < 0) = true := by simpa using hZ0
              clear hZ0
              go_wp2_with (go_at_call 43; (with_reducible refine (HUQ3.out _ kb _ (by omega)).mono ?_); rintro e wu ⟨rfl, rfl⟩)
              have z4 := heap10_at (hx4) (.slice a n c) (.int .i64 (P0 : Nat)) (.int .i64 (P8 : Nat)) (.int .i64 (P12 : Nat)) (.int .i64 (S : Nat)) (.int .i64 (NE : Nat)) (.int .i64 2) (.slice A4 (n - P4) (c - P4)) (.slice a' LR c') (.slice aS q cS)
              have q4 := fun o => cell_of_heap z4 o
              refine bodyPost_ret (v := .tuple #[.agg #[.slice a n c, .int .i64 (P0 : Nat), .int .i64 (P8 : Nat), .int .i64 (P12 : Nat), .int .i64 (S : Nat), .int .i64 (NE : Nat), .int .i64 2, .slice A4 (n - P4) (c - P4), .slice a' LR c', .slice aS q cS], .bool false]) (by simp [results, Try.results16, go_sem, q4]) rfl ?_
              exact ⟨.inr ⟨HNO.out, _, _, _, _, _, _, _, _, _, _, _, _, _, _, _, _, _, _, rfl⟩, below10 (kb) (Nat.le_refl _) _ _ _ _ _ _ _ _ _ _⟩
            have dz : decide (Z < 0) = false := by simpa using hZ0
            by_cases hZn : (n : Int) - (AT : Int) < Z
            · have HNO := Lib.hid (HNOX.out fun r hr => by
                have h1 := HZ.out
                have h2 := hr.at_
                have h3 := hr.off
                have h4 := HL.out
                unfold offC at h3
                rw [HAT.out] at h2 h3
                unfold qAt at h1
                rw [if_pos h2] at h1
                omega)
              have dn : decide ((n : Int) - (AT : Int) < Z) = true := by simpa using hZn
              clear hZ0 hZn
              go_wp2_with (go_at_call 43; (with_reducible refine (HUQ3.out _ kb _ (by omega)).mono ?_); rintro e wu ⟨rfl, rfl⟩)
              have z4 := heap10_at (hx4) (.slice a n c) (.int .i64 (P0 : Nat)) (.int .i64 (P8 : Nat)) (.int .i64 (P12 : Nat)) (.int .i64 (S : Nat)) (.int .i64 (NE : Nat)) (.int .i64 2) (.slice A4 (n - P4) (c - P4)) (.slice a' LR c') (.slice aS q cS)
              have q4 := fun o => cell_of_heap z4 o
              refine bodyPost_ret (v := .tuple #[.agg #[.slice a n c, .int .i64 (P0 : Nat), .int .i64 (P8 : Nat), .int .i64 (P12 : Nat), .int .i64 (S : Nat), .int .i64 (NE : Nat), .int .i64 2, .slice A4 (n - P4) (c - P4), .slice a' LR c', .slice aS q cS], .bool false]) (by simp [results, Try.results16, go_sem, q4]) rfl ?_
              exact ⟨.inr ⟨HNO.out, _, _, _, _, _, _, _, _, _, _, _, _, _, _, _, _, _, _, rfl⟩, below10 (kb) (Nat.le_refl _) _ _ _ _ _ _ _ _ _ _⟩
            have dn : decide ((n : Int) - (AT : Int) < Z) = false := by simpa using hZn
            obtain ⟨Zn, rfl⟩ : ∃ Zn : Nat, Z = Zn := ⟨Z.toNat, by omega⟩
            have hin4 : AT + 4 * q + 4 ≤ bs.length := by
              have h1 := HZ.out
              unfold qAt at h1
              by_cases g : AT + 4 * q + 4 ≤ bs.length
              · exact g
              · rw [if_neg g] at h1; omega
            have hZe : num bs (AT + 4 * q) 4 = Zn := by
              have h1 := HZ.out
              unfold qAt at h1
              rw [if_pos hin4] at h1
              omega
            obtain ⟨off, hoff⟩ : ∃ off, off = AT + Zn := ⟨_, rfl⟩
            have hoffz : (AT : Int) + (Zn : Int) = (off : Int) := by omega
            have hoffn : off ≤ n := by omega
            have HOFF := Lib.hid (show offC bs q = off from by unfold offC; rw [HAT.out, hZe, hoff])
            have HIN4 := Lib.hid hin4
            clear hZ0 hZn hin4 hZe hoff HZ
            have dofn : decide (n < off) = false := by simp; omega
            have hsb := HSUB.out off hoffn wr3 kb
            by_cases hco : c = off
            case pos =>
              have hAd : adv a c off = a := by unfold adv; rw [if_pos hco]
              have hco1 : (c = off) = True := eq_true hco
              clear hco
              have HAD := Lib.hid hAd
              rw [hAd] at hsb
              have HSB := Lib.hid hsb
              clear hAd hsb
              go_wp2_with (go_at_call 43; (with_reducible refine (HUQ3.out _ kb _ (by omega)).mono ?_); rintro e wu ⟨rfl, rfl⟩)
              refine HSB.out.mono ?_
              rintro e w5 ⟨(⟨r, a5, c5, hlk, rfl, hn5, _, _, h65⟩ | ⟨hno5, rfl⟩), hb5⟩
              case inr =>
                have HNO := Lib.hid (HNOX.out fun r hr => hno5 r (by have := hr.ok; rwa [HOFF.out] at this))
                have Y9 := Lib.hid ((hb5.block _ l9).trans k9)
                have Y4 := Lib.hid ((hb5.block _ l4).trans hx4)
                have HB5 := Lib.hid (kb.trans (hb5.mono kb.size))
                have l95 := (Array.getElem?_eq_some_iff.1 Y9.out).1
                have l45 := (Array.getElem?_eq_some_iff.1 Y4.out).1
                clear hno5 hb5 kr ks kk kb k9 hx4 q9 f9 f4 q40 hN9 l9 l4
                go_wp2_with (first
                  | (refine wpAllocK rfl 40 rfl _ alloc06 ?_; (try dsimp only [Act.put]); (try simp only [List.setIfInBounds_toArray, List.set_cons_succ, List.set_cons_zero]); refine wpStoreK rfl 40 _ _ rfl w5.heap.size _ #[.slice none 0 0, .slice none 0 0] rfl rfl ((heap_push _ _ _).trans (if_pos rfl)) size06 rfl (by simp [Value.oneCell']) ?_; intro V5 x15 hk15 hz15 hb15; have hbV5 : Below w5.heap.size w5 V5 := (balloc (brefl w5) _).trans hb15; have hz5 : V5.heap.size = w5.heap.size + 1 := (by simpa using hz15); have z9 := (hbV5.block _ l95).trans Y9.out; have z4 := (hbV5.block _ l45).trans Y4.out; have Z4 := Lib.hid z4; have q9 := fun o => cell_of_heap z9 o; have q40 := fun o => cell_of_heap z4 o; have f4 := fun o => froz_of_heap z4 o; have l9 := (Array.getElem?_eq_some_iff.1 z9).1; have l4 := (Array.getElem?_eq_some_iff.1 z4).1; have HBV := Lib.hid (HB5.out.trans (hbV5.mono HB5.out.size)); clear x15 hk15 hz15 hb15 hbV5 z9 z4 hz5; (try dsimp only [Act.put]); (try simp only [List.setIfInBounds_toArray, List.set_cons_succ, List.set_cons_zero])))
                have z4 := heap10_at Z4.out (.slice a n c) (.int .i64 (P0 : Nat)) (.int .i64 (P8 : Nat)) (.int .i64 (P12 : Nat)) (.int .i64 (S : Nat)) (.int .i64 (NE : Nat)) (.int .i64 2) (.slice A4 (n - P4) (c - P4)) (.slice a' LR c') (.slice aS q cS)
                have q46 := fun o => cell_of_heap z4 o
                refine bodyPost_ret (v := .tuple #[.agg #[.slice a n c, .int .i64 (P0 : Nat), .int .i64 (P8 : Nat), .int .i64 (P12 : Nat), .int .i64 (S : Nat), .int .i64 (NE : Nat), .int .i64 2, .slice A4 (n - P4) (c - P4), .slice a' LR c', .slice aS q cS], .bool false]) (by simp [results, Try.results16, go_sem, q46]) rfl ?_
                exact ⟨.inr ⟨HNO.out, _, _, _, _, _, _, _, _, _, _, _, _, _, _, _, _, _, _, rfl⟩, below10 HBV.out (Nat.le_refl _) _ _ _ _ _ _ _ _ _ _⟩
              obtain ⟨rl, hrl⟩ : ∃ rl, rl = r.length := ⟨_, rfl⟩
              rw [← hrl]
              have HRL := Lib.hid hrl
              have Y9 := Lib.hid ((hb5.block _ l9).trans k9)
              have l95 := (Array.getElem?_eq_some_iff.1 Y9.out).1
              have hg9 : w1.heap.size + 1 + 1 ≤ wr3.heap.size := l9
              have h5z := hb5.size
              have hwb := kb.size
              have HLK := Lib.hid (show LkC bs glyphs q r from ⟨by rw [HAT.out]; exact HIN4.out, by rw [HOFF.out, HL.out]; exact hoffn, by rw [HOFF.out]; exact hlk⟩)
              have HKR := Lib.hid kr
              have HKB := Lib.hid kb
              have HKK := Lib.hid kk
              have HKS := Lib.hid ks
              have HK9 := Lib.hid k9
              have HSN := Lib.hid (hn5.mono hg9)
              have HB5 := Lib.hid hb5
              have HN9 := Lib.hid hN9
              clear hrl kr kk ks kb k9 hn5 hlk hb5 q9 f9 hx4 f4 q40 hN9
              go_wp2_with (first
                | (refine wpAllocK rfl 40 rfl _ alloc06 ?_; (try dsimp only [Act.put]); (try simp only [List.setIfInBounds_toArray, List.set_cons_succ, List.set_cons_zero]); refine wpStoreK rfl 40 _ _ rfl w5.heap.size _ #[.slice (a) (n - off) (c - off), .slice a5 rl c5] rfl rfl ((heap_push _ _ _).trans (if_pos rfl)) size06 rfl (by simp [Value.oneCell']) ?_; intro V5 x15 hk15 hz15 hb15; have hbV5 : Below w5.heap.size w5 V5 := (balloc (brefl w5) _).trans hb15; have hz5 : V5.heap.size = w5.heap.size + 1 := (by simpa using hz15); have Z9 := Lib.hid ((hbV5.block _ l95).trans Y9.out); have q9 := fun o => cell_of_heap Z9.out o; have l9V := (Array.getElem?_eq_some_iff.1 Z9.out).1; have q15 := fun o => cell_of_heap x15 o; have l15 := (Array.getElem?_eq_some_iff.1 x15).1; have HV5 := Lib.hid (HB5.out.trans (hbV5.mono h5z)); have HSN5 := Lib.hid (HSN.out.below hbV5); clear x15 hk15 hz15 hb15 hbV5 hz5; (try dsimp only [Act.put]); (try simp only [List.setIfInBounds_toArray, List.set_cons_succ, List.set_cons_zero]))
                | (at_builtin
                   refine wpAppL rfl _ _ 43 rfl (w1.heap.size + 1 + 1) 40 (.agg #[.slice none 0 0, .slice none 0 0]) 2 48 Try.underlying43 tb_info rfl (by decide) _ q (subsV subs) rfl (owns_below HKR.out (balloc HV5.out _) (Nat.le_refl _)) ⟨V5.heap.size, 0, none⟩ 1 1 [.slice (a) (n - off) (c - off), .slice a5 rl c5] rfl rfl (has_alloc V5 _ _) (fun u hu => by simp at hu; rcases hu with rfl | rfl <;> rfl) (by unfold maxLen; omega) (by omega) (by simp only [World.size_alloc]; omega) ?_
                   intro a6 c6 w6 hown6 t61 t62 t63 hb6 hg6
                   have hbW : Below wr3.heap.size wr3 (V5.alloc (.cells #[.slice (a) (n - off) (c - off), .slice a5 rl c5] 40)) := balloc HV5.out _
                   have hw9 := (hbW.block _ l9).trans HK9.out
                   have hy9 := (hb6.block _ (Nat.lt_succ_self _)).trans hw9
                   have q9 := fun o => cell_of_heap hy9 o
                   have f9 := fun o => froz_of_heap hy9 o
                   have l96 := (Array.getElem?_eq_some_iff.1 hy9).1
                   have HMORE := Lib.hid (KReadSt.more (mc := fun s => #[.slice a n c, .int .i64 (P0 : Nat), .int .i64 (P8 : Nat), .int .i64 (P12 : Nat), .int .i64 (S : Nat), .int .i64 (NE : Nat), .int .i64 2, .slice A4 (n - P4) (c - P4), .slice a' LR c', s]) hsl ⟨a, n - off, c - off, bs.drop off, a5, c5, r⟩ (by omega) hw9 (owns_below HKR.out hbW (Nat.le_refl _)) (fun i s h => ⟨(HKS.out i s h).1, (HKS.out i s h).2.below hbW⟩) (HKB.out.trans (hbW.mono hwb)) (HKK.out.trans (KeptO.below hbW)) ⟨by rw [HOFF.out]; exact HAD.out.symm, by rw [HOFF.out], by rw [HOFF.out], by rw [HOFF.out], HLK.out⟩ (HSN5.out.below (balloc (brefl V5) _)) (by have := hown6; rw [HRL.out] at this; exact this) hb6 hg6 (fun x y => by simp))
                   clear hy9 hw9 hbW hown6 t61 t62 t63 hb6 hg6))
              go_roundw
              case rel => exact ⟨q + 1, by omega, by omega, HMORE.out⟩
              case measure => obtain ⟨_, _, _, _, hh, _⟩ := HMORE.out; have h1 := subsN_is hh; have h2 := HN9.out; omega
            have hAd : adv a c off = a.map (fun x => x.add off) := by unfold adv; rw [if_neg hco]
            have HAD := Lib.hid hAd
            rw [hAd] at hsb
            have HSB := Lib.hid hsb
            clear hAd hsb
            go_wp2_with (go_at_call 43; (with_reducible refine (HUQ3.out _ kb _ (by omega)).mono ?_); rintro e wu ⟨rfl, rfl⟩)
            refine HSB.out.mono ?_
            rintro e w5 ⟨(⟨r, a5, c5, hlk, rfl, hn5, _, _, h65⟩ | ⟨hno5, rfl⟩), hb5⟩
            case inr =>
              have HNO := Lib.hid (HNOX.out fun r hr => hno5 r (by have := hr.ok; rwa [HOFF.out] at this))
              have Y9 := Lib.hid ((hb5.block _ l9).trans k9)
              have Y4 := Lib.hid ((hb5.block _ l4).trans hx4)
              have HB5 := Lib.hid (kb.trans (hb5.mono kb.size))
              have l95 := (Array.getElem?_eq_some_iff.1 Y9.out).1
              have l45 := (Array.getElem?_eq_some_iff.1 Y4.out).1
              clear hno5 hb5 kr ks kk kb k9 hx4 q9 f9 f4 q40 hN9 l9 l4
              go_wp2_with (first
                | (refine wpAllocK rfl 40 rfl _ alloc06 ?_; (try dsimp only [Act.put]); (try simp only [List.setIfInBounds_toArray, List.set_cons_succ, List.set_cons_zero]); refine wpStoreK rfl 40 _ _ rfl w5.heap.size _ #[.slice none 0 0, .slice none 0 0] rfl rfl ((heap_push _ _ _).trans (if_pos rfl)) size06 rfl (by simp [Value.oneCell']) ?_; intro V5 x15 hk15 hz15 hb15; have hbV5 : Below w5.heap.size w5 V5 := (balloc (brefl w5) _).trans hb15; have hz5 : V5.heap.size = w5.heap.size + 1 := (by simpa using hz15); have z9 := (hbV5.block _ l95).trans Y9.out; have z4 := (hbV5.block _ l45).trans Y4.out; have Z4 := Lib.hid z4; have q9 := fun o => cell_of_heap z9 o; have q40 := fun o => cell_of_heap z4 o; have f4 := fun o => froz_of_heap z4 o; have l9 := (Array.getElem?_eq_some_iff.1 z9).1; have l4 := (Array.getElem?_eq_some_iff.1 z4).1; have HBV := Lib.hid (HB5.out.trans (hbV5.mono HB5.out.size)); clear x15 hk15 hz15 hb15 hbV5 z9 z4 hz5; (try dsimp only [Act.put]); (try simp only [List.setIfInBounds_toArray, List.set_cons_succ, List.set_cons_zero])))
              have z4 := heap10_at Z4.out (.slice a n c) (.int .i64 (P0 : Nat)) (.int .i64 (P8 : Nat)) (.int .i64 (P12 : Nat)) (.int .i64 (S : Nat)) (.int .i64 (NE : Nat)) (.int .i64 2) (.slice A4 (n - P4) (c - P4)) (.slice a' LR c') (.slice aS q cS)
              have q46 := fun o => cell_of_heap z4 o
              refine bodyPost_ret (v := .tuple #[.agg #[.slice a n c, .int .i64 (P0 : Nat), .int .i64 (P8 : Nat), .int .i64 (P12 : Nat), .int .i64 (S : Nat), .int .i64 (NE : Nat), .int .i64 2, .slice A4 (n - P4) (c - P4), .slice a' LR c', .slice aS q cS], .bool false]) (by simp [results, Try.results16, go_sem, q46]) rfl ?_
              exact ⟨.inr ⟨HNO.out, _, _, _, _, _, _, _, _, _, _, _, _, _, _, _, _, _, _, rfl⟩, below10 HBV.out (Nat.le_refl _) _ _ _ _ _ _ _ _ _ _⟩
            obtain ⟨rl, hrl⟩ : ∃ rl, rl = r.length := ⟨_, rfl⟩
            rw [← hrl]
            have HRL := Lib.hid hrl
            have Y9 := Lib.hid ((hb5.block _ l9).trans k9)
            have l95 := (Array.getElem?_eq_some_iff.1 Y9.out).1
            have hg9 : w1.heap.size + 1 + 1 ≤ wr3.heap.size := l9
            have h5z := hb5.size
            have hwb := kb.size
            have HLK := Lib.hid (show LkC bs glyphs q r from ⟨by rw [HAT.out]; exact HIN4.out, by rw [HOFF.out, HL.out]; exact hoffn, by rw [HOFF.out]; exact hlk⟩)
            have HKR := Lib.hid kr
            have HKB := Lib.hid kb
            have HKK := Lib.hid kk
            have HKS := Lib.hid ks
            have HK9 := Lib.hid k9
            have HSN := Lib.hid (hn5.mono hg9)
            have HB5 := Lib.hid hb5
            have HN9 := Lib.hid hN9
            clear hrl kr kk ks kb k9 hn5 hlk hb5 q9 f9 hx4 f4 q40 hN9
            go_wp2_with (first
              | (refine wpAllocK rfl 40 rfl _ alloc06 ?_; (try dsimp only [Act.put]); (try simp only [List.setIfInBounds_toArray, List.set_cons_succ, List.set_cons_zero]); refine wpStoreK rfl 40 _ _ rfl w5.heap.size _ #[.slice (a.map (fun x => x.add off)) (n - off) (c - off), .slice a5 rl c5] rfl rfl ((heap_push _ _ _).trans (if_pos rfl)) size06 rfl (by simp [Value.oneCell']) ?_; intro V5 x15 hk15 hz15 hb15; have hbV5 : Below w5.heap.size w5 V5 := (balloc (brefl w5) _).trans hb15; have hz5 : V5.heap.size = w5.heap.size + 1 := (by simpa using hz15); have Z9 := Lib.hid ((hbV5.block _ l95).trans Y9.out); have q9 := fun o => cell_of_heap Z9.out o; have l9V := (Array.getElem?_eq_some_iff.1 Z9.out).1; have q15 := fun o => cell_of_heap x15 o; have l15 := (Array.getElem?_eq_some_iff.1 x15).1; have HV5 := Lib.hid (HB5.out.trans (hbV5.mono h5z)); have HSN5 := Lib.hid (HSN.out.below hbV5); clear x15 hk15 hz15 hb15 hbV5 hz5; (try dsimp only [Act.put]); (try simp only [List.setIfInBounds_toArray, List.set_cons_succ, List.set_cons_zero]))
              | (at_builtin
                 refine wpAppL rfl _ _ 43 rfl (w1.heap.size + 1 + 1) 40 (.agg #[.slice none 0 0, .slice none 0 0]) 2 48 Try.underlying43 tb_info rfl (by decide) _ q (subsV subs) rfl (owns_below HKR.out (balloc HV5.out _) (Nat.le_refl _)) ⟨V5.heap.size, 0, none⟩ 1 1 [.slice (a.map (fun x => x.add off)) (n - off) (c - off), .slice a5 rl c5] rfl rfl (has_alloc V5 _ _) (fun u hu => by simp at hu; rcases hu with rfl | rfl <;> rfl) (by unfold maxLen; omega) (by omega) (by simp only [World.size_alloc]; omega) ?_
                 intro a6 c6 w6 hown6 t61 t62 t63 hb6 hg6
                 have hbW : Below wr3.heap.size wr3 (V5.alloc (.cells #[.slice (a.map (fun x => x.add off)) (n - off) (c - off), .slice a5 rl c5] 40)) := balloc HV5.out _
                 have hw9 := (hbW.block _ l9).trans HK9.out
                 have hy9 := (hb6.block _ (Nat.lt_succ_self _)).trans hw9
                 have q9 := fun o => cell_of_heap hy9 o
                 have f9 := fun o => froz_of_heap hy9 o
                 have l96 := (Array.getElem?_eq_some_iff.1 hy9).1
                 have HMORE := Lib.hid (KReadSt.more (mc := fun s => #[.slice a n c, .int .i64 (P0 : Nat), .int .i64 (P8 : Nat), .int .i64 (P12 : Nat), .int .i64 (S : Nat), .int .i64 (NE : Nat), .int .i64 2, .slice A4 (n - P4) (c - P4), .slice a' LR c', s]) hsl ⟨a.map (fun x => x.add off), n - off, c - off, bs.drop off, a5, c5, r⟩ (by omega) hw9 (owns_below HKR.out hbW (Nat.le_refl _)) (fun i s h => ⟨(HKS.out i s h).1, (HKS.out i s h).2.below hbW⟩) (HKB.out.trans (hbW.mono hwb)) (HKK.out.trans (KeptO.below hbW)) ⟨by rw [HOFF.out]; exact HAD.out.symm, by rw [HOFF.out], by rw [HOFF.out], by rw [HOFF.out], HLK.out⟩ (HSN5.out.below (balloc (brefl V5) _)) (by have := hown6; rw [HRL.out] at this; exact this) hb6 hg6 (fun x y => by simp))
                 clear hy9 hw9 hbW hown6 t61 t62 t63 hb6 hg6))
            go_roundw
            case rel => exact ⟨q + 1, by omega, by omega, HMORE.out⟩
            case measure => obtain ⟨_, _, _, _, hh, _⟩ := HMORE.out; have h1 := subsN_is hh; have h2 := HN9.out; omega
        · rw [if_neg (by decide), if_neg (by decide)] at hst2
          rw [show ((2 : Nat) : Int) = 2 from rfl]
          have HST2 := Lib.hid (hst2.from HKV2.out)
          clear hst2 hkk x11
          have hcn1 : cB = cntC bs (i + 1) := by have := HCN.out; have := HCA.out; have := HCB.out; omega
          go_wp2_with fail
          go_roundw
          case rel => exact ⟨i + 1, hlt, by go_num, hcn1 ▸ HST2.out⟩
          case measure => simp only [RowKit.intOf]; omega
    · obtain rfl : NE = i := by omega
      have x4 := (kk.2 _ _ _ _ XV4.out (fun h => by rcases h with h | h; (omega); exact absurd h (by decide))).trans XV4.out
      have X4 := Lib.hid x4
      have f4 := fun o => froz_of_heap x4 o
      have q40 := fun o => cell_of_heap x4 o
      have l4 := (Array.getElem?_eq_some_iff.1 x4).1
      have q9 := fun o => cell_of_heap k9 o
      have l9 := (Array.getElem?_eq_some_iff.1 k9).1
      have HMR := Lib.hid (HMV.out.keptK kk XV9.out)
      have hc6 := HCNT.out NE
      have hkz := kk.1
      have HKR := Lib.hid kr
      have HKS := Lib.hid ks
      have HKB := Lib.hid kb
      have HSL := Lib.hid hsl
      clear kr ks kb kk x4 k9 hsl
      go_wp2_with fail
      obtain ⟨V6, hV6⟩ : ∃ V6, V6 = ((((((((((wr.setCell ⟨w.heap.size, 0, none⟩ (.slice a n c)).setCell ⟨w.heap.size, 1, none⟩ (.int .i64 (P0 : Nat))).setCell ⟨w.heap.size, 2, none⟩ (.int .i64 (P8 : Nat))).setCell ⟨w.heap.size, 3, none⟩ (.int .i64 (P12 : Nat))).setCell ⟨w.heap.size, 4, none⟩ (.int .i64 (S : Nat))).setCell ⟨w.heap.size, 5, none⟩ (.int .i64 (NE : Nat))).setCell ⟨w.heap.size, 6, none⟩ (.int .i64 2)).setCell ⟨w.heap.size, 7, none⟩ (.slice A4 (n - P4) (c - P4))).setCell ⟨w.heap.size, 8, none⟩ (.slice a' LR c')).setCell ⟨w.heap.size, 9, none⟩ (.slice aS (cntC bs NE) cS)) := ⟨_, rfl⟩
      have z4 := heap10_at X4.out (.slice a n c) (.int .i64 (P0 : Nat)) (.int .i64 (P8 : Nat)) (.int .i64 (P12 : Nat)) (.int .i64 (S : Nat)) (.int .i64 (NE : Nat)) (.int .i64 2) (.slice A4 (n - P4) (c - P4)) (.slice a' LR c') (.slice aS (cntC bs NE) cS)
      have hb6 := below10 (Below.refl w.heap.size wr) (Nat.le_refl _) (.slice a n c) (.int .i64 (P0 : Nat)) (.int .i64 (P8 : Nat)) (.int .i64 (P12 : Nat)) (.int .i64 (S : Nat)) (.int .i64 (NE : Nat)) (.int .i64 2) (.slice A4 (n - P4) (c - P4)) (.slice a' LR c') (.slice aS (cntC bs NE) cS)
      have hk6 : ∀ k, k ≠ w.heap.size → V6.heap[k]? = wr.heap[k]? := fun k hk => by rw [hV6]; simp only [set_heap_other _ hk]
      rw [← hV6] at z4 hb6 ⊢
      have HK46 := Lib.hid hk6
      have HB46 := Lib.hid hb6
      clear hV6 hk6 hb6
      have q46 := fun o => cell_of_heap z4 o
      refine bodyPost_ret (v := .tuple #[.agg #[.slice a n c, .int .i64 (P0 : Nat), .int .i64 (P8 : Nat), .int .i64 (P12 : Nat), .int .i64 (S : Nat), .int .i64 (NE : Nat), .int .i64 2, .slice A4 (n - P4) (c - P4), .slice a' LR c', .slice aS (cntC bs NE) cS], .bool true]) (by simp [results, Try.results16, go_sem, q46]) rfl ?_
      have hbF := HKB.out.trans HB46.out
      have hh : Has V6 a (bytesV bs) := HH.out.below hbF
      refine ⟨.inl ⟨rs, S, subs.map SubD.rs, ⟨HOK.out, HL20.out, by rw [HAT.out, HL.out]; exact hATn, by rw [List.length_map, HSL.out, HNEG.out], fun i q hq => ?_⟩, a', c', aS, cS, subs, rfl, by rw [HNEG.out, HLRG.out, HSL.out], ⟨hh, (hasN_else HMR.out (Nat.lt_succ_self _) HK46.out).1, HL.out, ⟨hn, hc⟩, h20, HOK.out, hg2, by decide⟩, ⟨has_of_owns (owns_else HKR.out (by omega) HK46.out), fun s hs => ?_⟩, fun i s h => (HKS.out i s h).1⟩, hbF⟩
      · rw [List.getElem?_map] at hq
        obtain ⟨s, hs, rfl⟩ := Option.map_eq_some_iff.1 hq
        exact (HKS.out i s hs).1.lk
      · obtain ⟨i, hi⟩ := List.mem_iff_getElem?.1 hs
        obtain ⟨h1, h2⟩ := HKS.out i s hi
        have ho : offC bs i ≤ n := by have := h1.lk.off; rwa [HL.out] at this
        refine ⟨?_, (hasN_else h2 (by omega) HK46.out).1, ?_, ?_, hg2, ?_⟩
        · rw [h1.ea, h1.eb, ← bytesV_drop]
          exact hh.adv c _ (by rw [bytesV_length, HL.out]; exact hn)
        · rw [h1.eb, h1.en, List.length_drop, HL.out]
        · rw [h1.en]; omega
        · rw [h1.eb]; exact h1.lk.ok
end Go.Proofs.Ytcegoenlajkgfaa
end
section

/- A map of lookups by where they stand, and a row of them. Conditions: as each says. -/
namespace Go.Proofs.Ytcegoenlajkgfaa
open Go.RowKit Go.Lib

def wfQ (n : Int) : Prop := (Lit.int .i64 n).wf = true
theorem wfQ_of {n : Int} (h1 : -9223372036854775808 ≤ n) (h2 : n ≤ 9223372036854775807) : wfQ n := by unfold wfQ; exact WalkArith.wf_i64 (by omega)
abbrev kQ (n : Int) : Lit := .int .i64 n
theorem lawQ : Maps.Keyed Try.prog 3 := Maps.int_keyed Try.underlying3
theorem keyQ {n : Int} (h : wfQ n) : keyOf Try.prog 3 (.int .i64 n) = some (kQ n) := Maps.keyOf_int_mk Try.underlying3 h
theorem kQ_key (n : Int) : WideAt.IsKeyLit (kQ n) := by trivial
theorem kQ_ne {m n : Int} (h : m ≠ n) : kQ m ≠ kQ n := fun e => h (by injection e)
/-- A pointer to a block's beginning, or none. -/
def ptrV : Option Nat → Value
  | none => .pointer none
  | some g => .pointer (some ⟨g, 0, none⟩)
def ptrD : Option Nat → DataW Unit
  | none => .lit (.int .i64 (-1))
  | some g => .lit (.int .i64 (g : Nat))
theorem ptrD_inj {a b : Option Nat} (h : ptrD a = ptrD b) : a = b := by
  cases a with
  | none =>
    cases b with
    | none => rfl
    | some y =>
      simp only [ptrD, DataW.lit.injEq, Lit.int.injEq] at h
      omega
  | some x =>
    cases b with
    | none =>
      simp only [ptrD, DataW.lit.injEq, Lit.int.injEq] at h
      omega
    | some y =>
      simp only [ptrD, DataW.lit.injEq, Lit.int.injEq] at h
      rw [show x = y by omega]
def ptrR (v : Value) : Option (DataW Unit × List MemPlace) := match v with
  | .pointer none => some (ptrD none, [])
  | .pointer (some ⟨g, 0, none⟩) => some (ptrD (some g), [])
  | _ => none
theorem ptrR_mk (o : Option Nat) : ptrR (ptrV o) = some (ptrD o, []) := by cases o <;> rfl
theorem ptrR_inv {v : Value} {y : DataW Unit × List MemPlace} (h : ptrR v = some y) : ∃ o, v = ptrV o ∧ y = (ptrD o, []) := by
  unfold ptrR at h
  split at h
  · cases h; exact ⟨none, rfl, rfl⟩
  · cases h; exact ⟨some _, rfl, rfl⟩
  · cases h
theorem zero_ptr (w : World) : (zeroValue 123).run Try.prog w = .ok (.pointer none) w := by kernel_rfl
theorem wpLookP {w : World} {ops : Array Oper} {rest : List Oper} {o : Oper} {a : Act} {Q : Exit → Act → World → Prop} (hg : o.guard = none) (m x : Operand) (t : TypeId) (hop : o.op = Op.lookup t m x false)
    (ht : Try.prog.underlying t = some (.map 3 123)) (b n : Nat) (D : DataW Unit) (hm : a.eval m = .map (some b)) (hown : w.ownsMap Try.prog 3 ptrR b n D)
    (k : Int) (hx : a.eval x = .int .i64 k) (hk : wfQ k) (r : Option Nat) (hr : D.atKey (kQ k) (ptrD none) = ptrD r) (hK : wpList Try.prog ops Q rest (a.put o.dst (ptrV r)) w) : wpList Try.prog ops Q (o :: rest) a w := by
  refine wpList_plain hg fun K' hK' => ?_
  obtain ⟨v, ps, hrun, hv⟩ := hown.lookup lawQ ht (zero_ptr _) (ptrR_mk none) (keyQ hk)
  obtain ⟨c, rfl, hc⟩ := ptrR_inv hv
  have e := (Prod.mk.inj hc).1
  rw [hr] at e
  obtain rfl := ptrD_inj e
  unfold Oper.wp
  simp [execOp, hop, hm, hx, hrun, Result.andThen]
  exact hK' _ _ hK
theorem map_below {w w' : World} {P : Program} {k : TypeId} {R : Value → Option (DataW Unit × List MemPlace)} {b n : Nat} {D : DataW Unit} (h : w.ownsMap P k R b n D) (hb : Below w.heap.size w w') : w'.ownsMap P k R b n D := by
  obtain ⟨es, clock, h1, h2, h3, h4⟩ := h
  exact ⟨es, clock, (hb.block b (Array.getElem?_eq_some_iff.1 h1).1).trans h1, h2, h3, h4⟩
/-- A map says this: whatever stands in it is so. -/
def SaysP (D : DataW Unit) (F : Int → Nat → Prop) : Prop := Maps.IsMap D ∧ ∀ z, ∃ o, D.atKey (kQ z) (ptrD none) = ptrD o ∧ ∀ g, o = some g → F z g
theorem saysP_start (F : Int → Nat → Prop) : SaysP (.map []) F := ⟨⟨[], rfl⟩, fun z => ⟨none, rfl, fun g h => by cases h⟩⟩
theorem SaysP.imp {D : DataW Unit} {F G : Int → Nat → Prop} (h : SaysP D F) (hi : ∀ z g, F z g → G z g) : SaysP D G := ⟨h.1, fun z => by obtain ⟨o, h1, h2⟩ := h.2 z; exact ⟨o, h1, fun g hg => hi _ _ (h2 g hg)⟩⟩
theorem SaysP.put {D : DataW Unit} {F : Int → Nat → Prop} (h : SaysP D F) {z : Int} {g : Nat} (hf : F z g) : SaysP (D.put (kQ z) (ptrD (some g))) F := by
  refine ⟨h.1.put _ _, fun y => ?_⟩
  by_cases e : y = z
  · subst e
    exact ⟨some g, Maps.atKey_put_same h.1 (kQ_key _) _ _, fun g' hg => by cases hg; exact hf⟩
  · obtain ⟨o, h1, h2⟩ := h.2 y
    exact ⟨o, by rw [Maps.atKey_put_other (kQ_ne e)]; exact h1, h2⟩
theorem SaysP.at {D : DataW Unit} {F : Int → Nat → Prop} (h : SaysP D F) (z : Int) (g : Nat) : (D.put (kQ z) (ptrD (some g))).atKey (kQ z) (ptrD none) = ptrD (some g) := Maps.atKey_put_same h.1 (kQ_key _) _ _
/-- Lookups of a list, as its bytes tell it. -/
structure ListOk (vb : List UInt8) (glyphs n : Nat) (qs : List (List RP)) : Prop where
  at_ : 4 * n ≤ vb.length
  len : qs.length = n
  each : ∀ i q, qs[i]? = some q → num vb (4 * i) 4 ≤ vb.length ∧ LkOk (vb.drop (num vb (4 * i) 4)) glyphs 2 q
/-- The lookup at a place lies in memory. -/
def LkG (B : Nat) (vb : List UInt8) (glyphs : Nat) (w : World) (z : Int) (g : Nat) : Prop := ∃ q fmt, z.toNat ≤ vb.length ∧ LkOk (vb.drop z.toNat) glyphs 2 q ∧ TabIs B g fmt (tabR (vb.drop z.toNat) q).1 (tabR (vb.drop z.toNat) q).2 w
def rowP (ps : List Nat) (n : Nat) : List Value := (ps.map fun g => ptrV (some g)) ++ List.replicate (n - ps.length) (.pointer none)
theorem rowP_nil (n : Nat) : rowP [] n = List.replicate n (.pointer none) := by simp [rowP]
theorem rowP_all (ps : List Nat) (n : Nat) (h : ps.length = n) : rowP ps n = ps.map fun g => ptrV (some g) := by simp [rowP, h]
theorem rowP_set (ps : List Nat) (n g : Nat) (h : ps.length < n) : (rowP ps n).set ps.length (ptrV (some g)) = rowP (ps ++ [g]) n := by
  unfold rowP
  rw [List.set_append_right _ _ (by simp), List.length_map, Nat.sub_self, show n - ps.length = (n - (ps ++ [g]).length) + 1 by simp; omega, List.replicate_succ, List.set_cons_zero]
  simp
theorem made_ptr (n : Nat) : (madeCells (Value.pointer none).cells (n * 1)).toList = rowP [] n := by
  rw [rowP_nil]
  apply List.ext_getElem?
  intro j
  simp only [madeCells, Value.cells]
  by_cases h : j < n
  · simp [h, Nat.mod_one]
  · simp [h]
theorem info_ptr : (Try.prog.info? 123).map (fun i => (i.zero, i.size, i.bytes)) = some (some (.pointer none), 1, 8) := by kernel_rfl
/-- While the lookups are taken. -/
structure CLInv (B : Nat) (vb : List UInt8) (glyphs n M g3 g7 bm go : Nat) (v3 v7 : Value) (qs : List (List RP)) (ps : List Nat) (wr : World) : Prop where
  len : qs.length = ps.length
  h3 : wr.heap[g3]? = some (.cells #[v3] 69 (0, 0))
  h7 : wr.heap[g7]? = some (.cells #[v7] 69 (0, 0))
  map : ∃ m D, m ≤ M ∧ wr.ownsMap Try.prog 3 ptrR bm m D ∧ SaysP D (LkG B vb glyphs wr)
  row : wr.ownsRow B 123 1 (.slice (some ⟨go, 0, none⟩) n n) n (rowP ps n)
  tabs : ∀ i q g, qs[i]? = some q → ps[i]? = some g → (num vb (4 * i) 4 ≤ vb.length ∧ LkOk (vb.drop (num vb (4 * i) 4)) glyphs 2 q) ∧ ∃ fmt, TabIs B g fmt (tabR (vb.drop (num vb (4 * i) 4)) q).1 (tabR (vb.drop (num vb (4 * i) 4)) q).2 wr
theorem CLInv.below {B : Nat} {vb : List UInt8} {glyphs n M g3 g7 bm go : Nat} {v3 v7 : Value} {qs : List (List RP)} {ps : List Nat} {w w' : World} (h : CLInv B vb glyphs n M g3 g7 bm go v3 v7 qs ps w) (hb : Below w.heap.size w w') : CLInv B vb glyphs n M g3 g7 bm go v3 v7 qs ps w' := by
  obtain ⟨m, D, hm, ho, hs⟩ := h.map
  exact ⟨h.len, (hb.block _ (Array.getElem?_eq_some_iff.1 h.h3).1).trans h.h3, (hb.block _ (Array.getElem?_eq_some_iff.1 h.h7).1).trans h.h7, ⟨m, D, hm, map_below ho hb, hs.imp fun z g ⟨q, fmt, h1, h2, h3⟩ => ⟨q, fmt, h1, h2, h3.below hb⟩⟩, owns_below h.row hb (Nat.le_refl _),
    fun i q g h1 h2 => ⟨(h.tabs i q g h1 h2).1, by obtain ⟨fmt, ht⟩ := (h.tabs i q g h1 h2).2; exact ⟨fmt, ht.below hb⟩⟩⟩
/-- What a store into the map leaves. -/
theorem kept_map {B b m : Nat} {D : DataW Unit} {own : Nat → Nat → Prop} {w w' : World} (ho : w.ownsMap Try.prog 3 ptrR b m D) (hg : w.grownBy w' (some b)) (hB : B ≤ b) : KeepC B own w w' := by
  obtain ⟨es, clock, h1, _⟩ := ho
  refine ⟨(Below.refl _ w).grown hg (Nat.le_trans hB (Nat.le_of_lt (Array.getElem?_eq_some_iff.1 h1).1)) (fun k hk => by injection hk with hk; omega), hg.size, fun k cs t fz hk _ => ?_⟩
  refine hg.block k (Array.getElem?_eq_some_iff.1 hk).1 ?_
  rintro e
  injection e with e
  subst e
  rw [h1] at hk
  injection hk with hk
  cases hk
end Go.Proofs.Ytcegoenlajkgfaa
end
