/- Joined from: IRefR. -/
import Derived.Test.YtbicnkopmamnpaaJ01
import Derived.Test.YtbicnkopmamnpaaJ22
section

/- The document's Read of layer 18: of bytes that begin with a machine. Conditions: bytes as the slice says; sizes. -/
namespace Go.Proofs.Ytbicnkopmamnpaa
open Go.RowKit Go.Lib

/-- What it answers. -/
def IReadIs (a : Option Addr) (n c : Nat) (bs : List UInt8) (glyphs : Nat) (w : World) (e : Ending) (w' : World) : Prop :=
  ((∃ (rs : List RP) (S : Nat) (a' : Option Addr) (c' : Nat) (aL : Option Addr) (nL cL : Nat), IOk bs glyphs rs S ∧ e = .returned (.tuple #[.agg #[.slice a n c, .int .i64 (num bs 0 4 : Nat), .int .i64 (num bs 8 4 : Nat), .int .i64 (num bs 12 4 : Nat), .int .i64 (S : Nat), .int .i64 (needE bs S : Nat), .int .i64 2, .slice (adv a c (num bs 4 4)) (n - num bs 4 4) (c - num bs 4 4), .slice a' rs.length c', .slice aL nL cL], .bool true])) ∨
    ((∀ rs S, ¬ IOk bs glyphs rs S) ∧ e = .returned (.tuple #[.agg #[.slice none 0 0, .int .i64 0, .int .i64 0, .int .i64 0, .int .i64 0, .int .i64 0, .int .i64 0, .slice none 0 0, .slice none 0 0, .slice none 0 0], .bool false]))) ∧ Below w.heap.size w w'
def FitI (bs : List UInt8) (AT k : Nat) : Prop := (0 < hereI (entW bs k) → AT + 2 * (entW bs k).2.2.1 + 2 * hereI (entW bs k) ≤ bs.length) ∧ (0 < markI (entW bs k) → AT + 2 * (entW bs k).2.2.2 + 2 * markI (entW bs k) ≤ bs.length)
set_option maxRecDepth 100000 in
set_option maxHeartbeats 12800000 in
theorem refiread_any (a : Option Addr) (n c : Nat) (bs : List UInt8) (glyphs : Nat) (zg : Int) (hzg : zg = (glyphs : Nat)) (w : World) (h : Has w a (bytesV bs)) (hl : bs.length = n) (hn : n ≤ c) (hc : c ≤ maxLen) (h20 : n ≤ 4000) (hg1 : 1 ≤ glyphs) (hg2 : glyphs ≤ 65535) :
    Calls Try.prog 20 #[.slice a n c, .int .i64 zg] w (IReadIs a n c bs glyphs w) := by
  have hAC := allocC
  have hAF := allocF
  subst hzg
  have HU := Lib.hid (fun W (hW : Below w.heap.size w W) => qAt_any a n c bs 16 16 rfl W (h.below hW) hl (Nat.le_trans hn hc) (by omega))
  have hq := qAt_bound bs 16
  have HH := Lib.hid h
  have HL := Lib.hid hl
  obtain ⟨Q, hQ⟩ : ∃ Q, qAt bs 16 = Q := ⟨_, rfl⟩
  rw [hQ] at HU hq
  have HQ := Lib.hid hQ
  have hQok : ∀ rs S, IOk bs glyphs rs S → 0 ≤ Q ∧ Q ≤ (n : Int) := fun rs S hk => by
    have h1 := HQ.out
    have h2 := hk.l20
    have h3 := hk.at_
    have h4 := HL.out
    unfold qAt at h1
    rw [if_pos (by omega)] at h1
    omega
  by_cases hm : ∃ rs S, MOk bs glyphs 2 rs S
  case neg =>
    have hmno : ∀ rs S, ¬ MOk bs glyphs 2 rs S := fun rs S h => hm ⟨rs, S, h⟩
    have HNO := Lib.hid (show ∀ rs S, ¬ IOk bs glyphs rs S from fun rs S hk => hmno rs S hk.mok)
    have HRD := Lib.hid (fun W (hW : Below w.heap.size w W) => show Calls Try.prog 68 #[.slice a n c, .int .i64 (glyphs : Nat), .int .i64 2] W fun e w' => e = .returned (.tuple #[.agg #[.slice none 0 0, .int .i64 0, .int .i64 0, .int .i64 0, .int .i64 0, .int .i64 0, .int .i64 0, .slice none 0 0, .slice none 0 0], .bool false]) ∧ Below W.heap.size W w' from (refM_any a n c bs glyphs 2 (glyphs : Int) 2 rfl rfl W (HH.out.below hW) HL.out hn hc h20 hg1 hg2 (by decide)).mono (by
      rintro e w' ⟨(⟨rs, S, _, _, hk, _⟩ | ⟨_, rfl⟩), hb⟩
      · exact absurd hk (hmno rs S)
      · exact ⟨rfl, hb⟩))
    clear h hl hQ hm hmno hQok
    unfold IReadIs
    by_cases hbad : Q < 0 ∨ (n : Int) < Q
    · have HFR := Lib.hid (from_bad a n c Q hbad)
      clear hbad
      go_enter Try.func20, Try.ntmps20
      go_wp2_with (first
        | (go_at_call 68; (with_reducible refine (HRD.out _ (by exact blw)).mono ?_); rintro e w1 ⟨rfl, hb1⟩; have h1c := bc hb1; have h1f := bf hb1; have h1z := hb1.size; simp only [World.size_alloc] at h1z; have hbw : Below w.heap.size w w1 := (by exact blw); have HBW := Lib.hid hbw; have X4 := Lib.hid (show w1.heap[w.heap.size]? = some (.cells #[.slice none 0 0, .int .i64 0, .int .i64 0, .int .i64 0, .int .i64 0, .int .i64 0, .int .i64 0, .slice none 0 0, .slice none 0 0, .slice none 0 0] 46 (0, 0)) from (hb1.block _ (by simp)).trans ((heap_push _ _ _).trans (if_pos rfl))); clear hbw)
        | (go_at_call 70; (with_reducible refine (HU.out _ (by exact blw)).mono ?_); rintro e wu ⟨rfl, rfl⟩)
        | (go_at_call 69; (with_reducible refine (HFR.out _).mono ?_); rintro e wu ⟨rfl, rfl⟩))
      have z4 := heap10_at (((balloc (brefl w1) (.cells #[.slice none 0 0, .int .i64 0, .int .i64 0, .int .i64 0, .int .i64 0, .int .i64 0, .int .i64 0, .slice none 0 0, .slice none 0 0] 44)).block _ (by omega)).trans X4.out) (.slice none 0 0) (.int .i64 0) (.int .i64 0) (.int .i64 0) (.int .i64 0) (.int .i64 0) (.int .i64 0) (.slice none 0 0) (.slice none 0 0) (.slice none 0 0)
      have q4 := fun o => cell_of_heap z4 o
      refine bodyPost_ret (v := .tuple #[.agg #[.slice none 0 0, .int .i64 0, .int .i64 0, .int .i64 0, .int .i64 0, .int .i64 0, .int .i64 0, .slice none 0 0, .slice none 0 0, .slice none 0 0], .bool false]) (by simp [results, Try.results20, go_sem, q4]) rfl ?_
      exact ⟨.inr ⟨HNO.out, rfl⟩, below10 (balloc HBW.out _) (Nat.le_refl _) _ _ _ _ _ _ _ _ _ _ ⟩
    · obtain ⟨AT, rfl⟩ : ∃ AT : Nat, Q = AT := ⟨Q.toNat, by omega⟩
      have HFR := Lib.hid (from_ok a n c AT hn (by omega))
      clear hbad
      go_enter Try.func20, Try.ntmps20
      go_wp2_with (first
        | (go_at_call 68; (with_reducible refine (HRD.out _ (by exact blw)).mono ?_); rintro e w1 ⟨rfl, hb1⟩; have h1c := bc hb1; have h1f := bf hb1; have h1z := hb1.size; simp only [World.size_alloc] at h1z; have hbw : Below w.heap.size w w1 := (by exact blw); have HBW := Lib.hid hbw; have X4 := Lib.hid (show w1.heap[w.heap.size]? = some (.cells #[.slice none 0 0, .int .i64 0, .int .i64 0, .int .i64 0, .int .i64 0, .int .i64 0, .int .i64 0, .slice none 0 0, .slice none 0 0, .slice none 0 0] 46 (0, 0)) from (hb1.block _ (by simp)).trans ((heap_push _ _ _).trans (if_pos rfl))); clear hbw)
        | (go_at_call 70; (with_reducible refine (HU.out _ (by exact blw)).mono ?_); rintro e wu ⟨rfl, rfl⟩)
        | (go_at_call 69; (with_reducible refine (HFR.out _).mono ?_); rintro e wu ⟨rfl, rfl⟩))
      have z4 := heap10_at (((balloc (brefl w1) (.cells #[.slice none 0 0, .int .i64 0, .int .i64 0, .int .i64 0, .int .i64 0, .int .i64 0, .int .i64 0, .slice none 0 0, .slice none 0 0] 44)).block _ (by omega)).trans X4.out) (.slice none 0 0) (.int .i64 0) (.int .i64 0) (.int .i64 0) (.int .i64 0) (.int .i64 0) (.int .i64 0) (.slice none 0 0) (.slice none 0 0) (.slice none 0 0)
      have q4 := fun o => cell_of_heap z4 o
      refine bodyPost_ret (v := .tuple #[.agg #[.slice none 0 0, .int .i64 0, .int .i64 0, .int .i64 0, .int .i64 0, .int .i64 0, .int .i64 0, .slice none 0 0, .slice none 0 0, .slice none 0 0], .bool false]) (by simp [results, Try.results20, go_sem, q4]) rfl ?_
      exact ⟨.inr ⟨HNO.out, rfl⟩, below10 (balloc HBW.out _) (Nat.le_refl _) _ _ _ _ _ _ _ _ _ _ ⟩
  obtain ⟨rs, S, hm⟩ := hm
  have HMO := Lib.hid hm
  have hrd := fun W (hW : Below w.heap.size w W) => refread_yesN a n c bs glyphs 2 (glyphs : Int) 2 rfl rfl rs S W (HH.out.below hW) HL.out hn hc h20 hg1 hg2 (by decide) hm
  have hen := fun (i : Nat) (hi : i < needE bs S) (a' : Option Addr) (c' : Nat) W (hW : Below w.heap.size w W) => show Calls Try.prog 71 #[.agg (mrefA a n c (num bs 0 4) (num bs 8 4) (num bs 12 4) S (needE bs S) 2 (adv a c (num bs 4 4)) (n - num bs 4 4) (c - num bs 4 4) a' rs.length c'), .int .i64 (i : Nat)] W fun e w' => e = .returned (entV4 (entW bs i)) ∧ Below W.heap.size W w' from refE_any a n c bs (num bs 0 4) (num bs 8 4) (num bs 12 4) S (needE bs S) 2 (adv a c (num bs 4 4)) (n - num bs 4 4) (c - num bs 4 4) a' rs.length c' i (i : Int) rfl (by decide) W (HH.out.below hW) HL.out h20 (by
    have h1 := HMO.out.fitE
    have h2 := HMO.out.ents
    have h3 := HL.out
    have : (i + 1) * (4 + 2 * 2) ≤ needE bs S * (4 + 2 * 2) := Nat.mul_le_mul_right _ hi
    omega)
  have HLE := Lib.hid (fun (i : Nat) => show (entW bs i).1 ≤ 65535 ∧ (entW bs i).2.1 ≤ 65535 ∧ (entW bs i).2.2.1 ≤ 65535 ∧ (entW bs i).2.2.2 ≤ 65535 from entX_le _ _ _)
  have hdet := fun rs' S' (hk : IOk bs glyphs rs' S') => show rs' = rs ∧ S' = S from hk.mok.det hm
  unfold mrefV mrefA at hrd
  unfold mrefA at hen
  rw [show ((2 : Nat) : Int) = 2 from rfl] at hrd hen
  have HEN := Lib.hid hen
  have HRD := Lib.hid hrd
  have hNE : needE bs S ≤ 65536 := needE_le bs S
  by_cases hbad : Q < 0 ∨ (n : Int) < Q
  · have HNO := Lib.hid (show ∀ rs S, ¬ IOk bs glyphs rs S from fun rs S hk => by have := hQok rs S hk; omega)
    have HFR := Lib.hid (from_bad a n c Q hbad)
    clear h hl hQ hQok hbad hm hen hrd hdet
    unfold IReadIs
    generalize num bs 0 4 = P0 at *
    generalize num bs 4 4 = P4 at *
    generalize num bs 8 4 = P8 at *
    generalize num bs 12 4 = P12 at *
    generalize needE bs S = NE at *
    generalize adv a c P4 = A4 at *
    generalize rs.length = LR at *
    go_enter Try.func20, Try.ntmps20
    go_wp2_with (first
      | (go_at_call 68; (with_reducible refine (HRD.out _ (by exact blw)).mono ?_); rintro e w1 ⟨a', c', rfl, _, hb1⟩; have h1c := bc hb1; have h1f := bf hb1; have h1z := hb1.size; simp only [World.size_alloc] at h1z; have hbw : Below w.heap.size w w1 := (by exact blw); have HBW := Lib.hid hbw; have X4 := Lib.hid (show w1.heap[w.heap.size]? = some (.cells #[.slice none 0 0, .int .i64 0, .int .i64 0, .int .i64 0, .int .i64 0, .int .i64 0, .int .i64 0, .slice none 0 0, .slice none 0 0, .slice none 0 0] 46 (0, 0)) from (hb1.block _ (by simp)).trans ((heap_push _ _ _).trans (if_pos rfl))); clear hbw)
      | (go_at_call 70; (with_reducible refine (HU.out _ (by exact blw)).mono ?_); rintro e wu ⟨rfl, rfl⟩)
      | (go_at_call 69; (with_reducible refine (HFR.out _).mono ?_); rintro e wu ⟨rfl, rfl⟩))
    have z4 := heap10_at (((balloc (brefl w1) (.cells #[.slice a n c, .int .i64 (P0 : Nat), .int .i64 (P8 : Nat), .int .i64 (P12 : Nat), .int .i64 (S : Nat), .int .i64 (NE : Nat), .int .i64 2, .slice A4 (n - P4) (c - P4), .slice a' LR c'] 44)).block _ (by omega)).trans X4.out) (.slice none 0 0) (.int .i64 0) (.int .i64 0) (.int .i64 0) (.int .i64 0) (.int .i64 0) (.int .i64 0) (.slice none 0 0) (.slice none 0 0) (.slice none 0 0)
    have q4 := fun o => cell_of_heap z4 o
    refine bodyPost_ret (v := .tuple #[.agg #[.slice none 0 0, .int .i64 0, .int .i64 0, .int .i64 0, .int .i64 0, .int .i64 0, .int .i64 0, .slice none 0 0, .slice none 0 0, .slice none 0 0], .bool false]) (by simp [results, Try.results20, go_sem, q4]) rfl ?_
    exact ⟨.inr ⟨HNO.out, rfl⟩, below10 (balloc HBW.out _) (Nat.le_refl _) _ _ _ _ _ _ _ _ _ _ ⟩
  obtain ⟨AT, rfl⟩ : ∃ AT : Nat, Q = AT := ⟨Q.toNat, by omega⟩
  have hATn : AT ≤ n := by omega
  have hQ2 := HQ.out
  unfold qAt at hQ2
  have hl20 : 16 + 4 ≤ bs.length := by
    rcases Nat.lt_or_ge bs.length 20 with g | g
    · rw [if_neg (by omega)] at hQ2; omega
    · exact g
  rw [if_pos hl20] at hQ2
  have hat : num bs 16 4 = AT := by omega
  have HIOK := Lib.hid (show (∀ k, k < needE bs S → FitI bs AT k) → IOk bs glyphs rs S from fun hf => ⟨hm, by omega, by rw [hat, HL.out]; exact hATn, fun j hj => by rw [hat]; exact hf j hj⟩)
  have HBADF := Lib.hid (show ∀ k, k < needE bs S → ¬ FitI bs AT k → ∀ rs' S', ¬ IOk bs glyphs rs' S' from fun k hk hnf rs' S' hio => by
    obtain ⟨rfl, rfl⟩ := hdet rs' S' hio
    exact hnf (by have := hio.each k hk; rw [hat] at this; exact this))
  have HFR := Lib.hid (from_ok a n c AT hn hATn)
  have HTOP := Lib.hid (show ∀ (e : Ending) (w' : World) (a' : Option Addr) (c' : Nat) (aL : Option Addr) (nL cL : Nat), IOk bs glyphs rs S → e = .returned (.tuple #[.agg #[.slice a n c, .int .i64 (num bs 0 4 : Nat), .int .i64 (num bs 8 4 : Nat), .int .i64 (num bs 12 4 : Nat), .int .i64 (S : Nat), .int .i64 (needE bs S : Nat), .int .i64 2, .slice (adv a c (num bs 4 4)) (n - num bs 4 4) (c - num bs 4 4), .slice a' rs.length c', .slice aL nL cL], .bool true]) → Below w.heap.size w w' → IReadIs a n c bs glyphs w e w' from fun e w' a' c' aL nL cL h1 h2 h3 => ⟨.inl ⟨rs, S, a', c', aL, nL, cL, h1, h2⟩, h3⟩)
  have HBOT := Lib.hid (show ∀ (e : Ending) (w' : World), (∀ rs S, ¬ IOk bs glyphs rs S) → e = .returned (.tuple #[.agg #[.slice none 0 0, .int .i64 0, .int .i64 0, .int .i64 0, .int .i64 0, .int .i64 0, .int .i64 0, .slice none 0 0, .slice none 0 0, .slice none 0 0], .bool false]) → Below w.heap.size w w' → IReadIs a n c bs glyphs w e w' from fun e w' h1 h2 h3 => ⟨.inr ⟨h1, h2⟩, h3⟩)
  generalize IReadIs a n c bs glyphs w = POST at *
  clear h hl hQ hQ2 hQok hbad hm hen hrd hdet hat hl20 HQ HMO hq
  generalize num bs 0 4 = P0 at *
  generalize num bs 4 4 = P4 at *
  generalize num bs 8 4 = P8 at *
  generalize num bs 12 4 = P12 at *
  generalize needE bs S = NE at *
  generalize adv a c P4 = A4 at *
  generalize rs.length = LR at *
  go_enter Try.func20, Try.ntmps20
  go_wp2_with (first
    | (go_at_call 68; (with_reducible refine (HRD.out _ (by exact blw)).mono ?_); rintro e w1 ⟨a', c', rfl, _, hb1⟩; have h1c := bc hb1; have h1f := bf hb1; have h1z := hb1.size; simp only [World.size_alloc] at h1z; have hbw : Below w.heap.size w w1 := (by exact blw); have HBW := Lib.hid hbw; have X4 := Lib.hid (show w1.heap[w.heap.size]? = some (.cells #[.slice none 0 0, .int .i64 0, .int .i64 0, .int .i64 0, .int .i64 0, .int .i64 0, .int .i64 0, .slice none 0 0, .slice none 0 0, .slice none 0 0] 46 (0, 0)) from (hb1.block _ (by simp)).trans ((heap_push _ _ _).trans (if_pos rfl))); clear hbw)
    | (go_at_call 70; (with_reducible refine (HU.out _ (by exact blw)).mono ?_); rintro e wu ⟨rfl, rfl⟩)
    | (go_at_call 69; (with_reducible refine (HFR.out _).mono ?_); rintro e wu ⟨rfl, rfl⟩))
  obtain ⟨V, hV⟩ : ∃ V, V = w1.alloc (Obj.cells #[.slice a n c, .int .i64 (P0 : Nat), .int .i64 (P8 : Nat), .int .i64 (P12 : Nat), .int .i64 (S : Nat), .int .i64 (NE : Nat), .int .i64 2, .slice A4 (n - P4) (c - P4), .slice a' LR c'] 44) := ⟨_, rfl⟩
  have hbV : Below w1.heap.size w1 V := by rw [hV]; exact balloc (brefl w1) _
  have x6 : V.heap[w1.heap.size]? = some (.cells #[.slice a n c, .int .i64 (P0 : Nat), .int .i64 (P8 : Nat), .int .i64 (P12 : Nat), .int .i64 (S : Nat), .int .i64 (NE : Nat), .int .i64 2, .slice A4 (n - P4) (c - P4), .slice a' LR c'] 44 (0, 0)) := by rw [hV]; exact (heap_push _ _ _).trans (if_pos rfl)
  have XV6 := Lib.hid x6
  have XV4 := Lib.hid ((hbV.block _ (Array.getElem?_eq_some_iff.1 X4.out).1).trans X4.out)
  have HBV := Lib.hid (HBW.out.trans (hbV.mono HBW.out.size))
  have HEN2 := Lib.hid (fun i hi W hW => HEN.out i hi a' c' W hW)
  rw [← hV]
  clear hV x6 hbV hb1 h1c h1f h1z X4 HEN
  generalize w1.heap.size = g6 at *
  obtain ⟨nL, hnL⟩ : ∃ nL, nL = n - AT := ⟨_, rfl⟩
  rw [← hnL]
  have hnl1 : nL + AT ≤ n := by omega
  have hnl2 : n ≤ nL + AT := by omega
  clear hnL
  generalize adv a c AT = aL at *
  generalize c - AT = cL at *
  go_loopw [10] (fun i wr => ∃ j : Nat, j ≤ NE ∧ i = .int .i64 (j : Nat) ∧ (∀ k, k < j → FitI bs AT k) ∧ Below V.heap.size V wr) (fun i _ => NE - (Go.RowKit.intOf i).toNat)
  case atStart => exact ⟨0, Nat.zero_le _, rfl, fun k hk => by omega, Below.refl _ _⟩
  case round =>
    obtain ⟨j, hj, rfl, hall, hb⟩ := hrel
    rename World => wr
    have HALL := Lib.hid hall
    have HBR := Lib.hid hb
    have ZR4 := Lib.hid ((hb.block _ (Array.getElem?_eq_some_iff.1 XV4.out).1).trans XV4.out)
    have z6 := (hb.block _ (Array.getElem?_eq_some_iff.1 XV6.out).1).trans XV6.out
    have HBWR := Lib.hid (HBV.out.trans (hb.mono HBV.out.size))
    have q6 := fun o => cell_of_heap z6 o
    have l6 := (Array.getElem?_eq_some_iff.1 z6).1
    have l4 := (Array.getElem?_eq_some_iff.1 ZR4.out).1
    clear hall hb z6
    by_cases hlt : j < NE
    · have hle := HLE.out j
      have hen := HEN2.out j hlt
      have hfj : FitI bs AT j ↔ (0 < hereI (entW bs j) → AT + 2 * (entW bs j).2.2.1 + 2 * hereI (entW bs j) ≤ n) ∧ (0 < markI (entW bs j) → AT + 2 * (entW bs j).2.2.2 + 2 * markI (entW bs j) ≤ n) := by unfold FitI; rw [HL.out]
      have hHE := fun W => hereR_any (entW bs j) hle.2.1 W
      have hMK := fun W => markR_any (entW bs j) hle.2.1 W
      have h31 : hereI (entW bs j) ≤ 31 := by unfold hereI; split <;> omega
      have m31 : markI (entW bs j) ≤ 31 := by unfold markI; split <;> omega
      have hnj := HBADF.out j hlt
      unfold entV4 at hen
      generalize hereI (entW bs j) = hh at *
      generalize markI (entW bs j) = mk at *
      generalize entW bs j = e at *
      obtain ⟨e0, F, A, B⟩ := e
      simp only at hHE hMK hle hfj hen
      have HEN := Lib.hid hen
      have HFJ := Lib.hid hfj
      have HHE := Lib.hid hHE
      have HMK := Lib.hid hMK
      have HNJ := Lib.hid hnj
      have HJ := Lib.hid (fun (h : FitI bs AT j) k (hk : k < j + 1) => show FitI bs AT k from by
        rcases Nat.lt_or_ge k j with g | g
        · exact HALL.out k g
        · rw [show k = j by omega]; exact h)
      have fA : IntKind.i64.wrap (2 * (A : Int)) = (2 * (A : Int)) := by rw [IntWalk.i64_in _ (by omega)]
      have fB : IntKind.i64.wrap (2 * (B : Int)) = (2 * (B : Int)) := by rw [IntWalk.i64_in _ (by omega)]
      have fh : IntKind.i64.wrap (2 * (hh : Int)) = (2 * (hh : Int)) := by rw [IntWalk.i64_in _ (by omega)]
      have fm : IntKind.i64.wrap (2 * (mk : Int)) = (2 * (mk : Int)) := by rw [IntWalk.i64_in _ (by omega)]
      have HI1 := Lib.hid (fun W => (in_any nL (2 * (A : Int)) (2 * (hh : Int)) W (by unfold maxLen; omega) (by omega) (by omega)))
      have HI2 := Lib.hid (fun W => (in_any nL (2 * (B : Int)) (2 * (mk : Int)) W (by unfold maxLen; omega) (by omega) (by omega)))
      have HAB := Lib.hid (show A ≤ 65535 ∧ B ≤ 65535 from ⟨hle.2.2.1, hle.2.2.2⟩)
      clear hen hfj hHE hMK hnj hle
      go_wp2_with (go_at_call 71; (with_reducible refine (HEN.out wr HBWR.out).mono ?_); rintro e wE ⟨rfl, hbE⟩; have HBE := Lib.hid hbE; clear hbE q6)
      obtain ⟨V1, hV1⟩ : ∃ V1, V1 = wE.alloc (Obj.cells #[.int .i64 (e0 : Nat), .int .i64 (F : Nat), .int .i64 (A : Nat), .int .i64 (B : Nat)] 34) := ⟨_, rfl⟩
      have hb1 : Below wr.heap.size wr V1 := by rw [hV1]; exact HBE.out.trans ((balloc (brefl wE) _).mono HBE.out.size)
      have x11 : V1.heap[wE.heap.size]? = some (.cells #[.int .i64 (e0 : Nat), .int .i64 (F : Nat), .int .i64 (A : Nat), .int .i64 (B : Nat)] 34 (0, 0)) := by rw [hV1]; exact (heap_push _ _ _).trans (if_pos rfl)
      have Z14 := Lib.hid ((hb1.block _ l4).trans ZR4.out)
      have l14 := (Array.getElem?_eq_some_iff.1 Z14.out).1
      have q11 := fun o => cell_of_heap x11 o
      have l11 := (Array.getElem?_eq_some_iff.1 x11).1
      have HB1 := Lib.hid hb1
      rw [← hV1]
      clear hV1 x11 hb1
      generalize wE.heap.size = g11 at *
      by_cases hh0 : hh ≤ 0
      · have dh : decide (0 < (hh : Int)) = false := by simp; omega
        have dh2 : decide (0 < hh) = false := by simp; omega
        have dh3 : ¬ 0 < hh := by omega
        by_cases hm0 : mk = 0
        · have dm : decide (0 < (mk : Int)) = false := by simp; omega
          have dm2 : decide (0 < mk) = false := by simp; omega
          have dm3 : ¬ 0 < mk := by omega
          refine wp_region_tree (.step 0 (.step 1 (.step 2 (.step 3 (.step 4 (.step 5 (.step 6 (.step 7 (.step 8 (.step 9 (.step 10 (.step 11 (.step 12 (.step 13 (.step 14 (.step 15 (.step 16 (.step 17 (.step 18 (.step 19 (.step 20 (.step 21 (.step 22 (.step 23 (.step 24 (.step 25 (.step 26 (.step 27 (.step 28 (.step 29 (.step 30 (.step 31 .nil)))))))))))))))))))))))))))))))) (by kernel_rfl) (by kernel_rfl) (by kernel_rfl) (by kernel_rfl) (by intro _ _ d_ _ _ h_; cases d_ <;> first | exact h_ | (dsimp +zetaDelta only at h_ ⊢; exact h_)) (fun w' => ∃ p : Wld V1 [], w' = p.val) (wld_start _ _) ?_
          have hG_ := @wldC V1
          (refine tree_quiet gtA (by rfl) (by rfl) (fun K_ hK_ => ?_); go_big_quiet_op; refine hK_ _ ?_; clear hK_ K_)
          (refine tree_run gtA (by rfl) (by rfl) (fun K_ hK_ => ?_); have HK_ := Lib.hid hK_; clear hK_; go_wp2_with (first | (go_at_call 72; (with_reducible refine (HHE.out _).mono ?_); rintro e wa ⟨rfl, hba⟩; have hac := bc hba; have haf := bf hba; have haz := hba.size; try simp only [World.size_alloc, World.size_drew] at haz) | (go_at_call 74; (with_reducible refine (HMK.out _).mono ?_); rintro e wd ⟨rfl, hbd⟩; have hdc := bc hbd; have hdf := bf hbd; have hdz := hbd.size; try simp only [World.size_alloc, World.size_drew] at hdz) | (go_at_call 73; (with_reducible refine (HI1.out _).mono ?_); rintro e w_ ⟨rfl, rfl⟩; rw [hi1]) | (go_at_call 73; (with_reducible refine (HI2.out _).mono ?_); rintro e w_ ⟨rfl, rfl⟩; rw [hi2])); refine HK_.out _ _ (wld_ofA) ?_; clear HK_)
          (refine tree_quiet gtA (by rfl) (by rfl) (fun K_ hK_ => ?_); go_big_quiet_op; refine hK_ _ ?_; clear hK_ K_)
          (refine tree_quiet gtA (by rfl) (by rfl) (fun K_ hK_ => ?_); go_big_quiet_op; refine hK_ _ ?_; clear hK_ K_)
          refine tree_skip gtA (by rfl) ?_; dsimp only [Act.put]; simp only [List.setIfInBounds_toArray, List.set_cons_succ, List.set_cons_zero]
          refine tree_skip gtA (by rfl) ?_; dsimp only [Act.put]; simp only [List.setIfInBounds_toArray, List.set_cons_succ, List.set_cons_zero]
          refine tree_skip gtA (by rfl) ?_; dsimp only [Act.put]; simp only [List.setIfInBounds_toArray, List.set_cons_succ, List.set_cons_zero]
          refine tree_skip gtA (by rfl) ?_; dsimp only [Act.put]; simp only [List.setIfInBounds_toArray, List.set_cons_succ, List.set_cons_zero]
          refine tree_skip gtA (by rfl) ?_; dsimp only [Act.put]; simp only [List.setIfInBounds_toArray, List.set_cons_succ, List.set_cons_zero]
          refine tree_skip gtA (by rfl) ?_; dsimp only [Act.put]; simp only [List.setIfInBounds_toArray, List.set_cons_succ, List.set_cons_zero]
          refine tree_skip gtA (by rfl) ?_; dsimp only [Act.put]; simp only [List.setIfInBounds_toArray, List.set_cons_succ, List.set_cons_zero]
          refine tree_skip gtA (by rfl) ?_; dsimp only [Act.put]; simp only [List.setIfInBounds_toArray, List.set_cons_succ, List.set_cons_zero]
          refine tree_skip gtA (by rfl) ?_; dsimp only [Act.put]; simp only [List.setIfInBounds_toArray, List.set_cons_succ, List.set_cons_zero]
          refine tree_skip gtA (by rfl) ?_; dsimp only [Act.put]; simp only [List.setIfInBounds_toArray, List.set_cons_succ, List.set_cons_zero]
          (refine tree_quiet gtA (by rfl) (by rfl) (fun K_ hK_ => ?_); go_big_quiet_op; refine hK_ _ ?_; clear hK_ K_)
          (refine tree_quiet gtA (by rfl) (by rfl) (fun K_ hK_ => ?_); go_big_quiet_op; refine hK_ _ ?_; clear hK_ K_)
          (refine tree_quiet gtA (by rfl) (by rfl) (fun K_ hK_ => ?_); go_big_quiet_op; refine hK_ _ ?_; clear hK_ K_)
          (refine tree_run gtA (by rfl) (by rfl) (fun K_ hK_ => ?_); have HK_ := Lib.hid hK_; clear hK_; go_wp2_with (first | (go_at_call 72; (with_reducible refine (HHE.out _).mono ?_); rintro e wa ⟨rfl, hba⟩; have hac := bc hba; have haf := bf hba; have haz := hba.size; try simp only [World.size_alloc, World.size_drew] at haz) | (go_at_call 74; (with_reducible refine (HMK.out _).mono ?_); rintro e wd ⟨rfl, hbd⟩; have hdc := bc hbd; have hdf := bf hbd; have hdz := hbd.size; try simp only [World.size_alloc, World.size_drew] at hdz) | (go_at_call 73; (with_reducible refine (HI1.out _).mono ?_); rintro e w_ ⟨rfl, rfl⟩; rw [hi1]) | (go_at_call 73; (with_reducible refine (HI2.out _).mono ?_); rintro e w_ ⟨rfl, rfl⟩; rw [hi2])); refine HK_.out _ _ (wld_ofA) ?_; clear HK_)
          (refine tree_quiet gtA (by rfl) (by rfl) (fun K_ hK_ => ?_); go_big_quiet_op; refine hK_ _ ?_; clear hK_ K_)
          (refine tree_quiet gtA (by rfl) (by rfl) (fun K_ hK_ => ?_); go_big_quiet_op; refine hK_ _ ?_; clear hK_ K_)
          refine tree_skip gtA (by rfl) ?_; dsimp only [Act.put]; simp only [List.setIfInBounds_toArray, List.set_cons_succ, List.set_cons_zero]
          refine tree_skip gtA (by rfl) ?_; dsimp only [Act.put]; simp only [List.setIfInBounds_toArray, List.set_cons_succ, List.set_cons_zero]
          refine tree_skip gtA (by rfl) ?_; dsimp only [Act.put]; simp only [List.setIfInBounds_toArray, List.set_cons_succ, List.set_cons_zero]
          refine tree_skip gtA (by rfl) ?_; dsimp only [Act.put]; simp only [List.setIfInBounds_toArray, List.set_cons_succ, List.set_cons_zero]
          refine tree_skip gtA (by rfl) ?_; dsimp only [Act.put]; simp only [List.setIfInBounds_toArray, List.set_cons_succ, List.set_cons_zero]
          refine tree_skip gtA (by rfl) ?_; dsimp only [Act.put]; simp only [List.setIfInBounds_toArray, List.set_cons_succ, List.set_cons_zero]
          refine tree_skip gtA (by rfl) ?_; dsimp only [Act.put]; simp only [List.setIfInBounds_toArray, List.set_cons_succ, List.set_cons_zero]
          refine tree_skip gtA (by rfl) ?_; dsimp only [Act.put]; simp only [List.setIfInBounds_toArray, List.set_cons_succ, List.set_cons_zero]
          refine tree_skip gtA (by rfl) ?_; dsimp only [Act.put]; simp only [List.setIfInBounds_toArray, List.set_cons_succ, List.set_cons_zero]
          refine tree_skip gtA (by rfl) ?_; dsimp only [Act.put]; simp only [List.setIfInBounds_toArray, List.set_cons_succ, List.set_cons_zero]
          (refine tree_quiet gtA (by rfl) (by rfl) (fun K_ hK_ => ?_); go_big_quiet_op; refine hK_ _ ?_; clear hK_ K_)
          (refine tree_quiet gtA (by rfl) (by rfl) (fun K_ hK_ => ?_); go_big_quiet_op; refine hK_ _ ?_; clear hK_ K_)
          refine tree_nil ?_
          clear hG_
          have HBX := Lib.hid (show Below V1.heap.size V1 wd from by exact blw)
          go_wp2_with fail
          go_roundw
          case rel => exact ⟨j + 1, hlt, by go_num, HJ.out (HFJ.out.2 ⟨by omega, by omega⟩), HBR.out.trans ((HB1.out.trans (HBX.out.mono HB1.out.size)).mono HBR.out.size)⟩
          case measure => simp [Go.RowKit.intOf]; omega
        have dm : decide (0 < (mk : Int)) = true := by simp; omega
        have hmp : 0 < mk := by omega
        have dm2 : decide (0 < mk) = true := by simpa using hmp
        by_cases hin2 : AT + 2 * B + 2 * mk ≤ n
        · have hi2 : decide (0 ≤ (2 * (B : Int)) ∧ 0 ≤ (2 * (mk : Int)) ∧ (2 * (B : Int)) ≤ (nL : Nat) ∧ (2 * (mk : Int)) ≤ (nL : Nat) - (2 * (B : Int))) = true := by rw [decide_eq_true_iff]; omega
          refine wp_region_tree (.step 0 (.step 1 (.step 2 (.step 3 (.step 4 (.step 5 (.step 6 (.step 7 (.step 8 (.step 9 (.step 10 (.step 11 (.step 12 (.step 13 (.step 14 (.step 15 (.step 16 (.step 17 (.step 18 (.step 19 (.step 20 (.step 21 (.step 22 (.step 23 (.step 24 (.step 25 (.step 26 (.step 27 (.step 28 (.step 29 (.step 30 (.step 31 .nil)))))))))))))))))))))))))))))))) (by kernel_rfl) (by kernel_rfl) (by kernel_rfl) (by kernel_rfl) (by intro _ _ d_ _ _ h_; cases d_ <;> first | exact h_ | (dsimp +zetaDelta only at h_ ⊢; exact h_)) (fun w' => ∃ p : Wld V1 [], w' = p.val) (wld_start _ _) ?_
          have hG_ := @wldC V1
          (refine tree_quiet gtA (by rfl) (by rfl) (fun K_ hK_ => ?_); go_big_quiet_op; refine hK_ _ ?_; clear hK_ K_)
          (refine tree_run gtA (by rfl) (by rfl) (fun K_ hK_ => ?_); have HK_ := Lib.hid hK_; clear hK_; go_wp2_with (first | (go_at_call 72; (with_reducible refine (HHE.out _).mono ?_); rintro e wa ⟨rfl, hba⟩; have hac := bc hba; have haf := bf hba; have haz := hba.size; try simp only [World.size_alloc, World.size_drew] at haz) | (go_at_call 74; (with_reducible refine (HMK.out _).mono ?_); rintro e wd ⟨rfl, hbd⟩; have hdc := bc hbd; have hdf := bf hbd; have hdz := hbd.size; try simp only [World.size_alloc, World.size_drew] at hdz) | (go_at_call 73; (with_reducible refine (HI1.out _).mono ?_); rintro e w_ ⟨rfl, rfl⟩; rw [hi1]) | (go_at_call 73; (with_reducible refine (HI2.out _).mono ?_); rintro e w_ ⟨rfl, rfl⟩; rw [hi2])); refine HK_.out _ _ (wld_ofA) ?_; clear HK_)
          (refine tree_quiet gtA (by rfl) (by rfl) (fun K_ hK_ => ?_); go_big_quiet_op; refine hK_ _ ?_; clear hK_ K_)
          (refine tree_quiet gtA (by rfl) (by rfl) (fun K_ hK_ => ?_); go_big_quiet_op; refine hK_ _ ?_; clear hK_ K_)
          refine tree_skip gtA (by rfl) ?_; dsimp only [Act.put]; simp only [List.setIfInBounds_toArray, List.set_cons_succ, List.set_cons_zero]
          refine tree_skip gtA (by rfl) ?_; dsimp only [Act.put]; simp only [List.setIfInBounds_toArray, List.set_cons_succ, List.set_cons_zero]
          refine tree_skip gtA (by rfl) ?_; dsimp only [Act.put]; simp only [List.setIfInBounds_toArray, List.set_cons_succ, List.set_cons_zero]
          refine tree_skip gtA (by rfl) ?_; dsimp only [Act.put]; simp only [List.setIfInBounds_toArray, List.set_cons_succ, List.set_cons_zero]
          refine tree_skip gtA (by rfl) ?_; dsimp only [Act.put]; simp only [List.setIfInBounds_toArray, List.set_cons_succ, List.set_cons_zero]
          refine tree_skip gtA (by rfl) ?_; dsimp only [Act.put]; simp only [List.setIfInBounds_toArray, List.set_cons_succ, List.set_cons_zero]
          refine tree_skip gtA (by rfl) ?_; dsimp only [Act.put]; simp only [List.setIfInBounds_toArray, List.set_cons_succ, List.set_cons_zero]
          refine tree_skip gtA (by rfl) ?_; dsimp only [Act.put]; simp only [List.setIfInBounds_toArray, List.set_cons_succ, List.set_cons_zero]
          refine tree_skip gtA (by rfl) ?_; dsimp only [Act.put]; simp only [List.setIfInBounds_toArray, List.set_cons_succ, List.set_cons_zero]
          refine tree_skip gtA (by rfl) ?_; dsimp only [Act.put]; simp only [List.setIfInBounds_toArray, List.set_cons_succ, List.set_cons_zero]
          (refine tree_quiet gtA (by rfl) (by rfl) (fun K_ hK_ => ?_); go_big_quiet_op; refine hK_ _ ?_; clear hK_ K_)
          (refine tree_quiet gtA (by rfl) (by rfl) (fun K_ hK_ => ?_); go_big_quiet_op; refine hK_ _ ?_; clear hK_ K_)
          (refine tree_quiet gtA (by rfl) (by rfl) (fun K_ hK_ => ?_); go_big_quiet_op; refine hK_ _ ?_; clear hK_ K_)
          (refine tree_run gtA (by rfl) (by rfl) (fun K_ hK_ => ?_); have HK_ := Lib.hid hK_; clear hK_; go_wp2_with (first | (go_at_call 72; (with_reducible refine (HHE.out _).mono ?_); rintro e wa ⟨rfl, hba⟩; have hac := bc hba; have haf := bf hba; have haz := hba.size; try simp only [World.size_alloc, World.size_drew] at haz) | (go_at_call 74; (with_reducible refine (HMK.out _).mono ?_); rintro e wd ⟨rfl, hbd⟩; have hdc := bc hbd; have hdf := bf hbd; have hdz := hbd.size; try simp only [World.size_alloc, World.size_drew] at hdz) | (go_at_call 73; (with_reducible refine (HI1.out _).mono ?_); rintro e w_ ⟨rfl, rfl⟩; rw [hi1]) | (go_at_call 73; (with_reducible refine (HI2.out _).mono ?_); rintro e w_ ⟨rfl, rfl⟩; rw [hi2])); refine HK_.out _ _ (wld_ofA) ?_; clear HK_)
          (refine tree_quiet gtA (by rfl) (by rfl) (fun K_ hK_ => ?_); go_big_quiet_op; refine hK_ _ ?_; clear hK_ K_)
          (refine tree_quiet gtA (by rfl) (by rfl) (fun K_ hK_ => ?_); go_big_quiet_op; refine hK_ _ ?_; clear hK_ K_)
          (refine tree_quiet gtA (by rfl) (by rfl) (fun K_ hK_ => ?_); go_big_quiet_op; refine hK_ _ ?_; clear hK_ K_)
          (refine tree_quiet gtA (by rfl) (by rfl) (fun K_ hK_ => ?_); go_big_quiet_op; refine hK_ _ ?_; clear hK_ K_)
          (refine tree_quiet gtA (by rfl) (by rfl) (fun K_ hK_ => ?_); go_big_quiet_op; refine hK_ _ ?_; clear hK_ K_)
          (refine tree_quiet gtA (by rfl) (by rfl) (fun K_ hK_ => ?_); go_big_quiet_op; refine hK_ _ ?_; clear hK_ K_)
          (refine tree_quiet gtA (by rfl) (by rfl) (fun K_ hK_ => ?_); go_big_quiet_op; refine hK_ _ ?_; clear hK_ K_)
          (refine tree_quiet gtA (by rfl) (by rfl) (fun K_ hK_ => ?_); go_big_quiet_op; refine hK_ _ ?_; clear hK_ K_)
          (refine tree_run gtA (by rfl) (by rfl) (fun K_ hK_ => ?_); have HK_ := Lib.hid hK_; clear hK_; go_wp2_with (first | (go_at_call 72; (with_reducible refine (HHE.out _).mono ?_); rintro e wa ⟨rfl, hba⟩; have hac := bc hba; have haf := bf hba; have haz := hba.size; try simp only [World.size_alloc, World.size_drew] at haz) | (go_at_call 74; (with_reducible refine (HMK.out _).mono ?_); rintro e wd ⟨rfl, hbd⟩; have hdc := bc hbd; have hdf := bf hbd; have hdz := hbd.size; try simp only [World.size_alloc, World.size_drew] at hdz) | (go_at_call 73; (with_reducible refine (HI1.out _).mono ?_); rintro e w_ ⟨rfl, rfl⟩; rw [hi1]) | (go_at_call 73; (with_reducible refine (HI2.out _).mono ?_); rintro e w_ ⟨rfl, rfl⟩; rw [hi2])); refine HK_.out _ _ (wld_ofA) ?_; clear HK_)
          (refine tree_quiet gtA (by rfl) (by rfl) (fun K_ hK_ => ?_); go_big_quiet_op; refine hK_ _ ?_; clear hK_ K_)
          (refine tree_run gtA (by rfl) (by rfl) (fun K_ hK_ => ?_); have HK_ := Lib.hid hK_; clear hK_; go_wp2_with (first | (go_at_call 72; (with_reducible refine (HHE.out _).mono ?_); rintro e wa ⟨rfl, hba⟩; have hac := bc hba; have haf := bf hba; have haz := hba.size; try simp only [World.size_alloc, World.size_drew] at haz) | (go_at_call 74; (with_reducible refine (HMK.out _).mono ?_); rintro e wd ⟨rfl, hbd⟩; have hdc := bc hbd; have hdf := bf hbd; have hdz := hbd.size; try simp only [World.size_alloc, World.size_drew] at hdz) | (go_at_call 73; (with_reducible refine (HI1.out _).mono ?_); rintro e w_ ⟨rfl, rfl⟩; rw [hi1]) | (go_at_call 73; (with_reducible refine (HI2.out _).mono ?_); rintro e w_ ⟨rfl, rfl⟩; rw [hi2])); refine HK_.out _ _ (wld_ofA) ?_; clear HK_)
          (refine tree_quiet gtA (by rfl) (by rfl) (fun K_ hK_ => ?_); go_big_quiet_op; refine hK_ _ ?_; clear hK_ K_)
          (refine tree_quiet gtA (by rfl) (by rfl) (fun K_ hK_ => ?_); go_big_quiet_op; refine hK_ _ ?_; clear hK_ K_)
          (refine tree_quiet gtA (by rfl) (by rfl) (fun K_ hK_ => ?_); go_big_quiet_op; refine hK_ _ ?_; clear hK_ K_)
          refine tree_nil ?_
          clear hG_
          have HBX := Lib.hid (show Below V1.heap.size V1 wd from by exact blw)
          go_wp2_with fail
          go_roundw
          case rel => exact ⟨j + 1, hlt, by go_num, HJ.out (HFJ.out.2 ⟨by omega, by omega⟩), HBR.out.trans ((HB1.out.trans (HBX.out.mono HB1.out.size)).mono HBR.out.size)⟩
          case measure => simp [Go.RowKit.intOf]; omega
        · have hi2 : decide (0 ≤ (2 * (B : Int)) ∧ 0 ≤ (2 * (mk : Int)) ∧ (2 * (B : Int)) ≤ (nL : Nat) ∧ (2 * (mk : Int)) ≤ (nL : Nat) - (2 * (B : Int))) = false := by rw [decide_eq_false_iff_not]; omega
          refine wp_region_tree (.step 0 (.step 1 (.step 2 (.step 3 (.step 4 (.step 5 (.step 6 (.step 7 (.step 8 (.step 9 (.step 10 (.step 11 (.step 12 (.step 13 (.step 14 (.step 15 (.step 16 (.step 17 (.step 18 (.step 19 (.step 20 (.step 21 (.step 22 (.step 23 (.step 24 (.step 25 (.step 26 (.step 27 (.step 28 (.step 29 (.step 30 (.step 31 .nil)))))))))))))))))))))))))))))))) (by kernel_rfl) (by kernel_rfl) (by kernel_rfl) (by kernel_rfl) (by intro _ _ d_ _ _ h_; cases d_ <;> first | exact h_ | (dsimp +zetaDelta only at h_ ⊢; exact h_)) (fun w' => ∃ p : Wld V1 [], w' = p.val) (wld_start _ _) ?_
          have hG_ := @wldC V1
          (refine tree_quiet gtA (by rfl) (by rfl) (fun K_ hK_ => ?_); go_big_quiet_op; refine hK_ _ ?_; clear hK_ K_)
          (refine tree_run gtA (by rfl) (by rfl) (fun K_ hK_ => ?_); have HK_ := Lib.hid hK_; clear hK_; go_wp2_with (first | (go_at_call 72; (with_reducible refine (HHE.out _).mono ?_); rintro e wa ⟨rfl, hba⟩; have hac := bc hba; have haf := bf hba; have haz := hba.size; try simp only [World.size_alloc, World.size_drew] at haz) | (go_at_call 74; (with_reducible refine (HMK.out _).mono ?_); rintro e wd ⟨rfl, hbd⟩; have hdc := bc hbd; have hdf := bf hbd; have hdz := hbd.size; try simp only [World.size_alloc, World.size_drew] at hdz) | (go_at_call 73; (with_reducible refine (HI1.out _).mono ?_); rintro e w_ ⟨rfl, rfl⟩; rw [hi1]) | (go_at_call 73; (with_reducible refine (HI2.out _).mono ?_); rintro e w_ ⟨rfl, rfl⟩; rw [hi2])); refine HK_.out _ _ (wld_ofA) ?_; clear HK_)
          (refine tree_quiet gtA (by rfl) (by rfl) (fun K_ hK_ => ?_); go_big_quiet_op; refine hK_ _ ?_; clear hK_ K_)
          (refine tree_quiet gtA (by rfl) (by rfl) (fun K_ hK_ => ?_); go_big_quiet_op; refine hK_ _ ?_; clear hK_ K_)
          refine tree_skip gtA (by rfl) ?_; dsimp only [Act.put]; simp only [List.setIfInBounds_toArray, List.set_cons_succ, List.set_cons_zero]
          refine tree_skip gtA (by rfl) ?_; dsimp only [Act.put]; simp only [List.setIfInBounds_toArray, List.set_cons_succ, List.set_cons_zero]
          refine tree_skip gtA (by rfl) ?_; dsimp only [Act.put]; simp only [List.setIfInBounds_toArray, List.set_cons_succ, List.set_cons_zero]
          refine tree_skip gtA (by rfl) ?_; dsimp only [Act.put]; simp only [List.setIfInBounds_toArray, List.set_cons_succ, List.set_cons_zero]
          refine tree_skip gtA (by rfl) ?_; dsimp only [Act.put]; simp only [List.setIfInBounds_toArray, List.set_cons_succ, List.set_cons_zero]
          refine tree_skip gtA (by rfl) ?_; dsimp only [Act.put]; simp only [List.setIfInBounds_toArray, List.set_cons_succ, List.set_cons_zero]
          refine tree_skip gtA (by rfl) ?_; dsimp only [Act.put]; simp only [List.setIfInBounds_toArray, List.set_cons_succ, List.set_cons_zero]
          refine tree_skip gtA (by rfl) ?_; dsimp only [Act.put]; simp only [List.setIfInBounds_toArray, List.set_cons_succ, List.set_cons_zero]
          refine tree_skip gtA (by rfl) ?_; dsimp only [Act.put]; simp only [List.setIfInBounds_toArray, List.set_cons_succ, List.set_cons_zero]
          refine tree_skip gtA (by rfl) ?_; dsimp only [Act.put]; simp only [List.setIfInBounds_toArray, List.set_cons_succ, List.set_cons_zero]
          (refine tree_quiet gtA (by rfl) (by rfl) (fun K_ hK_ => ?_); go_big_quiet_op; refine hK_ _ ?_; clear hK_ K_)
          (refine tree_quiet gtA (by rfl) (by rfl) (fun K_ hK_ => ?_); go_big_quiet_op; refine hK_ _ ?_; clear hK_ K_)
          (refine tree_quiet gtA (by rfl) (by rfl) (fun K_ hK_ => ?_); go_big_quiet_op; refine hK_ _ ?_; clear hK_ K_)
          (refine tree_run gtA (by rfl) (by rfl) (fun K_ hK_ => ?_); have HK_ := Lib.hid hK_; clear hK_; go_wp2_with (first | (go_at_call 72; (with_reducible refine (HHE.out _).mono ?_); rintro e wa ⟨rfl, hba⟩; have hac := bc hba; have haf := bf hba; have haz := hba.size; try simp only [World.size_alloc, World.size_drew] at haz) | (go_at_call 74; (with_reducible refine (HMK.out _).mono ?_); rintro e wd ⟨rfl, hbd⟩; have hdc := bc hbd; have hdf := bf hbd; have hdz := hbd.size; try simp only [World.size_alloc, World.size_drew] at hdz) | (go_at_call 73; (with_reducible refine (HI1.out _).mono ?_); rintro e w_ ⟨rfl, rfl⟩; rw [hi1]) | (go_at_call 73; (with_reducible refine (HI2.out _).mono ?_); rintro e w_ ⟨rfl, rfl⟩; rw [hi2])); refine HK_.out _ _ (wld_ofA) ?_; clear HK_)
          (refine tree_quiet gtA (by rfl) (by rfl) (fun K_ hK_ => ?_); go_big_quiet_op; refine hK_ _ ?_; clear hK_ K_)
          (refine tree_quiet gtA (by rfl) (by rfl) (fun K_ hK_ => ?_); go_big_quiet_op; refine hK_ _ ?_; clear hK_ K_)
          (refine tree_quiet gtA (by rfl) (by rfl) (fun K_ hK_ => ?_); go_big_quiet_op; refine hK_ _ ?_; clear hK_ K_)
          (refine tree_quiet gtA (by rfl) (by rfl) (fun K_ hK_ => ?_); go_big_quiet_op; refine hK_ _ ?_; clear hK_ K_)
          (refine tree_quiet gtA (by rfl) (by rfl) (fun K_ hK_ => ?_); go_big_quiet_op; refine hK_ _ ?_; clear hK_ K_)
          (refine tree_quiet gtA (by rfl) (by rfl) (fun K_ hK_ => ?_); go_big_quiet_op; refine hK_ _ ?_; clear hK_ K_)
          (refine tree_quiet gtA (by rfl) (by rfl) (fun K_ hK_ => ?_); go_big_quiet_op; refine hK_ _ ?_; clear hK_ K_)
          (refine tree_quiet gtA (by rfl) (by rfl) (fun K_ hK_ => ?_); go_big_quiet_op; refine hK_ _ ?_; clear hK_ K_)
          (refine tree_run gtA (by rfl) (by rfl) (fun K_ hK_ => ?_); have HK_ := Lib.hid hK_; clear hK_; go_wp2_with (first | (go_at_call 72; (with_reducible refine (HHE.out _).mono ?_); rintro e wa ⟨rfl, hba⟩; have hac := bc hba; have haf := bf hba; have haz := hba.size; try simp only [World.size_alloc, World.size_drew] at haz) | (go_at_call 74; (with_reducible refine (HMK.out _).mono ?_); rintro e wd ⟨rfl, hbd⟩; have hdc := bc hbd; have hdf := bf hbd; have hdz := hbd.size; try simp only [World.size_alloc, World.size_drew] at hdz) | (go_at_call 73; (with_reducible refine (HI1.out _).mono ?_); rintro e w_ ⟨rfl, rfl⟩; rw [hi1]) | (go_at_call 73; (with_reducible refine (HI2.out _).mono ?_); rintro e w_ ⟨rfl, rfl⟩; rw [hi2])); refine HK_.out _ _ (wld_ofA) ?_; clear HK_)
          (refine tree_quiet gtA (by rfl) (by rfl) (fun K_ hK_ => ?_); go_big_quiet_op; refine hK_ _ ?_; clear hK_ K_)
          (refine tree_run gtA (by rfl) (by rfl) (fun K_ hK_ => ?_); have HK_ := Lib.hid hK_; clear hK_; go_wp2_with (first | (go_at_call 72; (with_reducible refine (HHE.out _).mono ?_); rintro e wa ⟨rfl, hba⟩; have hac := bc hba; have haf := bf hba; have haz := hba.size; try simp only [World.size_alloc, World.size_drew] at haz) | (go_at_call 74; (with_reducible refine (HMK.out _).mono ?_); rintro e wd ⟨rfl, hbd⟩; have hdc := bc hbd; have hdf := bf hbd; have hdz := hbd.size; try simp only [World.size_alloc, World.size_drew] at hdz) | (go_at_call 73; (with_reducible refine (HI1.out _).mono ?_); rintro e w_ ⟨rfl, rfl⟩; rw [hi1]) | (go_at_call 73; (with_reducible refine (HI2.out _).mono ?_); rintro e w_ ⟨rfl, rfl⟩; rw [hi2])); refine HK_.out _ _ (wld_ofA) ?_; clear HK_)
          (refine tree_quiet gtA (by rfl) (by rfl) (fun K_ hK_ => ?_); go_big_quiet_op; refine hK_ _ ?_; clear hK_ K_)
          (refine tree_quiet gtA (by rfl) (by rfl) (fun K_ hK_ => ?_); go_big_quiet_op; refine hK_ _ ?_; clear hK_ K_)
          (refine tree_quiet gtA (by rfl) (by rfl) (fun K_ hK_ => ?_); go_big_quiet_op; refine hK_ _ ?_; clear hK_ K_)
          refine tree_nil ?_
          clear hG_
          have HBX := Lib.hid (show Below V1.heap.size V1 wd from by exact blw)
          have HNF := Lib.hid (HNJ.out fun hf => by have := HFJ.out.1 hf; omega)
          have zX := (HBX.out.block _ l14).trans Z14.out
          have qX := fun o => cell_of_heap zX o
          have fX := fun o => froz_of_heap zX o
          have q14 := fun o => cell_of_heap Z14.out o
          have f14 := fun o => froz_of_heap Z14.out o
          have lX := (Array.getElem?_eq_some_iff.1 zX).1
          clear q11 l11
          go_wp2_with fail
          have z4 := heap10_at zX (.slice none 0 0) (.int .i64 0) (.int .i64 0) (.int .i64 0) (.int .i64 0) (.int .i64 0) (.int .i64 0) (.slice none 0 0) (.slice none 0 0) (.slice none 0 0)
          have q4 := fun o => cell_of_heap z4 o
          refine bodyPost_ret (v := .tuple #[.agg #[.slice none 0 0, .int .i64 0, .int .i64 0, .int .i64 0, .int .i64 0, .int .i64 0, .int .i64 0, .slice none 0 0, .slice none 0 0, .slice none 0 0], .bool false]) (by simp [results, Try.results20, go_sem, q4]) rfl ?_
          exact HBOT.out _ _ HNF.out rfl (below10 (HBWR.out.trans ((HB1.out.trans (HBX.out.mono HB1.out.size)).mono HBWR.out.size)) (Nat.le_refl _) _ _ _ _ _ _ _ _ _ _ )
      have dh : decide (0 < (hh : Int)) = true := by simp; omega
      have hhp : 0 < hh := by omega
      have dh2 : decide (0 < hh) = true := by simpa using hhp
      by_cases hin1 : AT + 2 * A + 2 * hh ≤ n
      · have hi1 : decide (0 ≤ (2 * (A : Int)) ∧ 0 ≤ (2 * (hh : Int)) ∧ (2 * (A : Int)) ≤ (nL : Nat) ∧ (2 * (hh : Int)) ≤ (nL : Nat) - (2 * (A : Int))) = true := by rw [decide_eq_true_iff]; omega
        by_cases hm0 : mk = 0
        · have dm : decide (0 < (mk : Int)) = false := by simp; omega
          have dm2 : decide (0 < mk) = false := by simp; omega
          have dm3 : ¬ 0 < mk := by omega
          refine wp_region_tree (.step 0 (.step 1 (.step 2 (.step 3 (.step 4 (.step 5 (.step 6 (.step 7 (.step 8 (.step 9 (.step 10 (.step 11 (.step 12 (.step 13 (.step 14 (.step 15 (.step 16 (.step 17 (.step 18 (.step 19 (.step 20 (.step 21 (.step 22 (.step 23 (.step 24 (.step 25 (.step 26 (.step 27 (.step 28 (.step 29 (.step 30 (.step 31 .nil)))))))))))))))))))))))))))))))) (by kernel_rfl) (by kernel_rfl) (by kernel_rfl) (by kernel_rfl) (by intro _ _ d_ _ _ h_; cases d_ <;> first | exact h_ | (dsimp +zetaDelta only at h_ ⊢; exact h_)) (fun w' => ∃ p : Wld V1 [], w' = p.val) (wld_start _ _) ?_
          have hG_ := @wldC V1
          (refine tree_quiet gtA (by rfl) (by rfl) (fun K_ hK_ => ?_); go_big_quiet_op; refine hK_ _ ?_; clear hK_ K_)
          (refine tree_run gtA (by rfl) (by rfl) (fun K_ hK_ => ?_); have HK_ := Lib.hid hK_; clear hK_; go_wp2_with (first | (go_at_call 72; (with_reducible refine (HHE.out _).mono ?_); rintro e wa ⟨rfl, hba⟩; have hac := bc hba; have haf := bf hba; have haz := hba.size; try simp only [World.size_alloc, World.size_drew] at haz) | (go_at_call 74; (with_reducible refine (HMK.out _).mono ?_); rintro e wd ⟨rfl, hbd⟩; have hdc := bc hbd; have hdf := bf hbd; have hdz := hbd.size; try simp only [World.size_alloc, World.size_drew] at hdz) | (go_at_call 73; (with_reducible refine (HI1.out _).mono ?_); rintro e w_ ⟨rfl, rfl⟩; rw [hi1]) | (go_at_call 73; (with_reducible refine (HI2.out _).mono ?_); rintro e w_ ⟨rfl, rfl⟩; rw [hi2])); refine HK_.out _ _ (wld_ofA) ?_; clear HK_)
          (refine tree_quiet gtA (by rfl) (by rfl) (fun K_ hK_ => ?_); go_big_quiet_op; refine hK_ _ ?_; clear hK_ K_)
          (refine tree_quiet gtA (by rfl) (by rfl) (fun K_ hK_ => ?_); go_big_quiet_op; refine hK_ _ ?_; clear hK_ K_)
          (refine tree_quiet gtA (by rfl) (by rfl) (fun K_ hK_ => ?_); go_big_quiet_op; refine hK_ _ ?_; clear hK_ K_)
          (refine tree_quiet gtA (by rfl) (by rfl) (fun K_ hK_ => ?_); go_big_quiet_op; refine hK_ _ ?_; clear hK_ K_)
          (refine tree_quiet gtA (by rfl) (by rfl) (fun K_ hK_ => ?_); go_big_quiet_op; refine hK_ _ ?_; clear hK_ K_)
          (refine tree_quiet gtA (by rfl) (by rfl) (fun K_ hK_ => ?_); go_big_quiet_op; refine hK_ _ ?_; clear hK_ K_)
          (refine tree_quiet gtA (by rfl) (by rfl) (fun K_ hK_ => ?_); go_big_quiet_op; refine hK_ _ ?_; clear hK_ K_)
          (refine tree_quiet gtA (by rfl) (by rfl) (fun K_ hK_ => ?_); go_big_quiet_op; refine hK_ _ ?_; clear hK_ K_)
          (refine tree_run gtA (by rfl) (by rfl) (fun K_ hK_ => ?_); have HK_ := Lib.hid hK_; clear hK_; go_wp2_with (first | (go_at_call 72; (with_reducible refine (HHE.out _).mono ?_); rintro e wa ⟨rfl, hba⟩; have hac := bc hba; have haf := bf hba; have haz := hba.size; try simp only [World.size_alloc, World.size_drew] at haz) | (go_at_call 74; (with_reducible refine (HMK.out _).mono ?_); rintro e wd ⟨rfl, hbd⟩; have hdc := bc hbd; have hdf := bf hbd; have hdz := hbd.size; try simp only [World.size_alloc, World.size_drew] at hdz) | (go_at_call 73; (with_reducible refine (HI1.out _).mono ?_); rintro e w_ ⟨rfl, rfl⟩; rw [hi1]) | (go_at_call 73; (with_reducible refine (HI2.out _).mono ?_); rintro e w_ ⟨rfl, rfl⟩; rw [hi2])); refine HK_.out _ _ (wld_ofA) ?_; clear HK_)
          (refine tree_quiet gtA (by rfl) (by rfl) (fun K_ hK_ => ?_); go_big_quiet_op; refine hK_ _ ?_; clear hK_ K_)
          (refine tree_run gtA (by rfl) (by rfl) (fun K_ hK_ => ?_); have HK_ := Lib.hid hK_; clear hK_; go_wp2_with (first | (go_at_call 72; (with_reducible refine (HHE.out _).mono ?_); rintro e wa ⟨rfl, hba⟩; have hac := bc hba; have haf := bf hba; have haz := hba.size; try simp only [World.size_alloc, World.size_drew] at haz) | (go_at_call 74; (with_reducible refine (HMK.out _).mono ?_); rintro e wd ⟨rfl, hbd⟩; have hdc := bc hbd; have hdf := bf hbd; have hdz := hbd.size; try simp only [World.size_alloc, World.size_drew] at hdz) | (go_at_call 73; (with_reducible refine (HI1.out _).mono ?_); rintro e w_ ⟨rfl, rfl⟩; rw [hi1]) | (go_at_call 73; (with_reducible refine (HI2.out _).mono ?_); rintro e w_ ⟨rfl, rfl⟩; rw [hi2])); refine HK_.out _ _ (wld_ofA) ?_; clear HK_)
          (refine tree_quiet gtA (by rfl) (by rfl) (fun K_ hK_ => ?_); go_big_quiet_op; refine hK_ _ ?_; clear hK_ K_)
          (refine tree_quiet gtA (by rfl) (by rfl) (fun K_ hK_ => ?_); go_big_quiet_op; refine hK_ _ ?_; clear hK_ K_)
          (refine tree_quiet gtA (by rfl) (by rfl) (fun K_ hK_ => ?_); go_big_quiet_op; refine hK_ _ ?_; clear hK_ K_)
          (refine tree_quiet gtA (by rfl) (by rfl) (fun K_ hK_ => ?_); go_big_quiet_op; refine hK_ _ ?_; clear hK_ K_)
          (refine tree_run gtA (by rfl) (by rfl) (fun K_ hK_ => ?_); have HK_ := Lib.hid hK_; clear hK_; go_wp2_with (first | (go_at_call 72; (with_reducible refine (HHE.out _).mono ?_); rintro e wa ⟨rfl, hba⟩; have hac := bc hba; have haf := bf hba; have haz := hba.size; try simp only [World.size_alloc, World.size_drew] at haz) | (go_at_call 74; (with_reducible refine (HMK.out _).mono ?_); rintro e wd ⟨rfl, hbd⟩; have hdc := bc hbd; have hdf := bf hbd; have hdz := hbd.size; try simp only [World.size_alloc, World.size_drew] at hdz) | (go_at_call 73; (with_reducible refine (HI1.out _).mono ?_); rintro e w_ ⟨rfl, rfl⟩; rw [hi1]) | (go_at_call 73; (with_reducible refine (HI2.out _).mono ?_); rintro e w_ ⟨rfl, rfl⟩; rw [hi2])); refine HK_.out _ _ (wld_ofA) ?_; clear HK_)
          (refine tree_quiet gtA (by rfl) (by rfl) (fun K_ hK_ => ?_); go_big_quiet_op; refine hK_ _ ?_; clear hK_ K_)
          (refine tree_quiet gtA (by rfl) (by rfl) (fun K_ hK_ => ?_); go_big_quiet_op; refine hK_ _ ?_; clear hK_ K_)
          refine tree_skip gtA (by rfl) ?_; dsimp only [Act.put]; simp only [List.setIfInBounds_toArray, List.set_cons_succ, List.set_cons_zero]
          refine tree_skip gtA (by rfl) ?_; dsimp only [Act.put]; simp only [List.setIfInBounds_toArray, List.set_cons_succ, List.set_cons_zero]
          refine tree_skip gtA (by rfl) ?_; dsimp only [Act.put]; simp only [List.setIfInBounds_toArray, List.set_cons_succ, List.set_cons_zero]
          refine tree_skip gtA (by rfl) ?_; dsimp only [Act.put]; simp only [List.setIfInBounds_toArray, List.set_cons_succ, List.set_cons_zero]
          refine tree_skip gtA (by rfl) ?_; dsimp only [Act.put]; simp only [List.setIfInBounds_toArray, List.set_cons_succ, List.set_cons_zero]
          refine tree_skip gtA (by rfl) ?_; dsimp only [Act.put]; simp only [List.setIfInBounds_toArray, List.set_cons_succ, List.set_cons_zero]
          refine tree_skip gtA (by rfl) ?_; dsimp only [Act.put]; simp only [List.setIfInBounds_toArray, List.set_cons_succ, List.set_cons_zero]
          refine tree_skip gtA (by rfl) ?_; dsimp only [Act.put]; simp only [List.setIfInBounds_toArray, List.set_cons_succ, List.set_cons_zero]
          refine tree_skip gtA (by rfl) ?_; dsimp only [Act.put]; simp only [List.setIfInBounds_toArray, List.set_cons_succ, List.set_cons_zero]
          refine tree_skip gtA (by rfl) ?_; dsimp only [Act.put]; simp only [List.setIfInBounds_toArray, List.set_cons_succ, List.set_cons_zero]
          (refine tree_quiet gtA (by rfl) (by rfl) (fun K_ hK_ => ?_); go_big_quiet_op; refine hK_ _ ?_; clear hK_ K_)
          (refine tree_quiet gtA (by rfl) (by rfl) (fun K_ hK_ => ?_); go_big_quiet_op; refine hK_ _ ?_; clear hK_ K_)
          refine tree_nil ?_
          clear hG_
          have HBX := Lib.hid (show Below V1.heap.size V1 wd from by exact blw)
          go_wp2_with fail
          go_roundw
          case rel => exact ⟨j + 1, hlt, by go_num, HJ.out (HFJ.out.2 ⟨by omega, by omega⟩), HBR.out.trans ((HB1.out.trans (HBX.out.mono HB1.out.size)).mono HBR.out.size)⟩
          case measure => simp [Go.RowKit.intOf]; omega
        have dm : decide (0 < (mk : Int)) = true := by simp; omega
        have hmp : 0 < mk := by omega
        have dm2 : decide (0 < mk) = true := by simpa using hmp
        by_cases hin2 : AT + 2 * B + 2 * mk ≤ n
        · have hi2 : decide (0 ≤ (2 * (B : Int)) ∧ 0 ≤ (2 * (mk : Int)) ∧ (2 * (B : Int)) ≤ (nL : Nat) ∧ (2 * (mk : Int)) ≤ (nL : Nat) - (2 * (B : Int))) = true := by rw [decide_eq_true_iff]; omega
          refine wp_region_tree (.step 0 (.step 1 (.step 2 (.step 3 (.step 4 (.step 5 (.step 6 (.step 7 (.step 8 (.step 9 (.step 10 (.step 11 (.step 12 (.step 13 (.step 14 (.step 15 (.step 16 (.step 17 (.step 18 (.step 19 (.step 20 (.step 21 (.step 22 (.step 23 (.step 24 (.step 25 (.step 26 (.step 27 (.step 28 (.step 29 (.step 30 (.step 31 .nil)))))))))))))))))))))))))))))))) (by kernel_rfl) (by kernel_rfl) (by kernel_rfl) (by kernel_rfl) (by intro _ _ d_ _ _ h_; cases d_ <;> first | exact h_ | (dsimp +zetaDelta only at h_ ⊢; exact h_)) (fun w' => ∃ p : Wld V1 [], w' = p.val) (wld_start _ _) ?_
          have hG_ := @wldC V1
          (refine tree_quiet gtA (by rfl) (by rfl) (fun K_ hK_ => ?_); go_big_quiet_op; refine hK_ _ ?_; clear hK_ K_)
          (refine tree_run gtA (by rfl) (by rfl) (fun K_ hK_ => ?_); have HK_ := Lib.hid hK_; clear hK_; go_wp2_with (first | (go_at_call 72; (with_reducible refine (HHE.out _).mono ?_); rintro e wa ⟨rfl, hba⟩; have hac := bc hba; have haf := bf hba; have haz := hba.size; try simp only [World.size_alloc, World.size_drew] at haz) | (go_at_call 74; (with_reducible refine (HMK.out _).mono ?_); rintro e wd ⟨rfl, hbd⟩; have hdc := bc hbd; have hdf := bf hbd; have hdz := hbd.size; try simp only [World.size_alloc, World.size_drew] at hdz) | (go_at_call 73; (with_reducible refine (HI1.out _).mono ?_); rintro e w_ ⟨rfl, rfl⟩; rw [hi1]) | (go_at_call 73; (with_reducible refine (HI2.out _).mono ?_); rintro e w_ ⟨rfl, rfl⟩; rw [hi2])); refine HK_.out _ _ (wld_ofA) ?_; clear HK_)
          (refine tree_quiet gtA (by rfl) (by rfl) (fun K_ hK_ => ?_); go_big_quiet_op; refine hK_ _ ?_; clear hK_ K_)
          (refine tree_quiet gtA (by rfl) (by rfl) (fun K_ hK_ => ?_); go_big_quiet_op; refine hK_ _ ?_; clear hK_ K_)
          (refine tree_quiet gtA (by rfl) (by rfl) (fun K_ hK_ => ?_); go_big_quiet_op; refine hK_ _ ?_; clear hK_ K_)
          (refine tree_quiet gtA (by rfl) (by rfl) (fun K_ hK_ => ?_); go_big_quiet_op; refine hK_ _ ?_; clear hK_ K_)
          (refine tree_quiet gtA (by rfl) (by rfl) (fun K_ hK_ => ?_); go_big_quiet_op; refine hK_ _ ?_; clear hK_ K_)
          (refine tree_quiet gtA (by rfl) (by rfl) (fun K_ hK_ => ?_); go_big_quiet_op; refine hK_ _ ?_; clear hK_ K_)
          (refine tree_quiet gtA (by rfl) (by rfl) (fun K_ hK_ => ?_); go_big_quiet_op; refine hK_ _ ?_; clear hK_ K_)
          (refine tree_quiet gtA (by rfl) (by rfl) (fun K_ hK_ => ?_); go_big_quiet_op; refine hK_ _ ?_; clear hK_ K_)
          (refine tree_run gtA (by rfl) (by rfl) (fun K_ hK_ => ?_); have HK_ := Lib.hid hK_; clear hK_; go_wp2_with (first | (go_at_call 72; (with_reducible refine (HHE.out _).mono ?_); rintro e wa ⟨rfl, hba⟩; have hac := bc hba; have haf := bf hba; have haz := hba.size; try simp only [World.size_alloc, World.size_drew] at haz) | (go_at_call 74; (with_reducible refine (HMK.out _).mono ?_); rintro e wd ⟨rfl, hbd⟩; have hdc := bc hbd; have hdf := bf hbd; have hdz := hbd.size; try simp only [World.size_alloc, World.size_drew] at hdz) | (go_at_call 73; (with_reducible refine (HI1.out _).mono ?_); rintro e w_ ⟨rfl, rfl⟩; rw [hi1]) | (go_at_call 73; (with_reducible refine (HI2.out _).mono ?_); rintro e w_ ⟨rfl, rfl⟩; rw [hi2])); refine HK_.out _ _ (wld_ofA) ?_; clear HK_)
          (refine tree_quiet gtA (by rfl) (by rfl) (fun K_ hK_ => ?_); go_big_quiet_op; refine hK_ _ ?_; clear hK_ K_)
          (refine tree_run gtA (by rfl) (by rfl) (fun K_ hK_ => ?_); have HK_ := Lib.hid hK_; clear hK_; go_wp2_with (first | (go_at_call 72; (with_reducible refine (HHE.out _).mono ?_); rintro e wa ⟨rfl, hba⟩; have hac := bc hba; have haf := bf hba; have haz := hba.size; try simp only [World.size_alloc, World.size_drew] at haz) | (go_at_call 74; (with_reducible refine (HMK.out _).mono ?_); rintro e wd ⟨rfl, hbd⟩; have hdc := bc hbd; have hdf := bf hbd; have hdz := hbd.size; try simp only [World.size_alloc, World.size_drew] at hdz) | (go_at_call 73; (with_reducible refine (HI1.out _).mono ?_); rintro e w_ ⟨rfl, rfl⟩; rw [hi1]) | (go_at_call 73; (with_reducible refine (HI2.out _).mono ?_); rintro e w_ ⟨rfl, rfl⟩; rw [hi2])); refine HK_.out _ _ (wld_ofA) ?_; clear HK_)
          (refine tree_quiet gtA (by rfl) (by rfl) (fun K_ hK_ => ?_); go_big_quiet_op; refine hK_ _ ?_; clear hK_ K_)
          (refine tree_quiet gtA (by rfl) (by rfl) (fun K_ hK_ => ?_); go_big_quiet_op; refine hK_ _ ?_; clear hK_ K_)
          (refine tree_quiet gtA (by rfl) (by rfl) (fun K_ hK_ => ?_); go_big_quiet_op; refine hK_ _ ?_; clear hK_ K_)
          (refine tree_quiet gtA (by rfl) (by rfl) (fun K_ hK_ => ?_); go_big_quiet_op; refine hK_ _ ?_; clear hK_ K_)
          (refine tree_run gtA (by rfl) (by rfl) (fun K_ hK_ => ?_); have HK_ := Lib.hid hK_; clear hK_; go_wp2_with (first | (go_at_call 72; (with_reducible refine (HHE.out _).mono ?_); rintro e wa ⟨rfl, hba⟩; have hac := bc hba; have haf := bf hba; have haz := hba.size; try simp only [World.size_alloc, World.size_drew] at haz) | (go_at_call 74; (with_reducible refine (HMK.out _).mono ?_); rintro e wd ⟨rfl, hbd⟩; have hdc := bc hbd; have hdf := bf hbd; have hdz := hbd.size; try simp only [World.size_alloc, World.size_drew] at hdz) | (go_at_call 73; (with_reducible refine (HI1.out _).mono ?_); rintro e w_ ⟨rfl, rfl⟩; rw [hi1]) | (go_at_call 73; (with_reducible refine (HI2.out _).mono ?_); rintro e w_ ⟨rfl, rfl⟩; rw [hi2])); refine HK_.out _ _ (wld_ofA) ?_; clear HK_)
          (refine tree_quiet gtA (by rfl) (by rfl) (fun K_ hK_ => ?_); go_big_quiet_op; refine hK_ _ ?_; clear hK_ K_)
          (refine tree_quiet gtA (by rfl) (by rfl) (fun K_ hK_ => ?_); go_big_quiet_op; refine hK_ _ ?_; clear hK_ K_)
          (refine tree_quiet gtA (by rfl) (by rfl) (fun K_ hK_ => ?_); go_big_quiet_op; refine hK_ _ ?_; clear hK_ K_)
          (refine tree_quiet gtA (by rfl) (by rfl) (fun K_ hK_ => ?_); go_big_quiet_op; refine hK_ _ ?_; clear hK_ K_)
          (refine tree_quiet gtA (by rfl) (by rfl) (fun K_ hK_ => ?_); go_big_quiet_op; refine hK_ _ ?_; clear hK_ K_)
          (refine tree_quiet gtA (by rfl) (by rfl) (fun K_ hK_ => ?_); go_big_quiet_op; refine hK_ _ ?_; clear hK_ K_)
          (refine tree_quiet gtA (by rfl) (by rfl) (fun K_ hK_ => ?_); go_big_quiet_op; refine hK_ _ ?_; clear hK_ K_)
          (refine tree_quiet gtA (by rfl) (by rfl) (fun K_ hK_ => ?_); go_big_quiet_op; refine hK_ _ ?_; clear hK_ K_)
          (refine tree_run gtA (by rfl) (by rfl) (fun K_ hK_ => ?_); have HK_ := Lib.hid hK_; clear hK_; go_wp2_with (first | (go_at_call 72; (with_reducible refine (HHE.out _).mono ?_); rintro e wa ⟨rfl, hba⟩; have hac := bc hba; have haf := bf hba; have haz := hba.size; try simp only [World.size_alloc, World.size_drew] at haz) | (go_at_call 74; (with_reducible refine (HMK.out _).mono ?_); rintro e wd ⟨rfl, hbd⟩; have hdc := bc hbd; have hdf := bf hbd; have hdz := hbd.size; try simp only [World.size_alloc, World.size_drew] at hdz) | (go_at_call 73; (with_reducible refine (HI1.out _).mono ?_); rintro e w_ ⟨rfl, rfl⟩; rw [hi1]) | (go_at_call 73; (with_reducible refine (HI2.out _).mono ?_); rintro e w_ ⟨rfl, rfl⟩; rw [hi2])); refine HK_.out _ _ (wld_ofA) ?_; clear HK_)
          (refine tree_quiet gtA (by rfl) (by rfl) (fun K_ hK_ => ?_); go_big_quiet_op; refine hK_ _ ?_; clear hK_ K_)
          (refine tree_run gtA (by rfl) (by rfl) (fun K_ hK_ => ?_); have HK_ := Lib.hid hK_; clear hK_; go_wp2_with (first | (go_at_call 72; (with_reducible refine (HHE.out _).mono ?_); rintro e wa ⟨rfl, hba⟩; have hac := bc hba; have haf := bf hba; have haz := hba.size; try simp only [World.size_alloc, World.size_drew] at haz) | (go_at_call 74; (with_reducible refine (HMK.out _).mono ?_); rintro e wd ⟨rfl, hbd⟩; have hdc := bc hbd; have hdf := bf hbd; have hdz := hbd.size; try simp only [World.size_alloc, World.size_drew] at hdz) | (go_at_call 73; (with_reducible refine (HI1.out _).mono ?_); rintro e w_ ⟨rfl, rfl⟩; rw [hi1]) | (go_at_call 73; (with_reducible refine (HI2.out _).mono ?_); rintro e w_ ⟨rfl, rfl⟩; rw [hi2])); refine HK_.out _ _ (wld_ofA) ?_; clear HK_)
          (refine tree_quiet gtA (by rfl) (by rfl) (fun K_ hK_ => ?_); go_big_quiet_op; refine hK_ _ ?_; clear hK_ K_)
          (refine tree_quiet gtA (by rfl) (by rfl) (fun K_ hK_ => ?_); go_big_quiet_op; refine hK_ _ ?_; clear hK_ K_)
          (refine tree_quiet gtA (by rfl) (by rfl) (fun K_ hK_ => ?_); go_big_quiet_op; refine hK_ _ ?_; clear hK_ K_)
          refine tree_nil ?_
          clear hG_
          have HBX := Lib.hid (show Below V1.heap.size V1 wd from by exact blw)
          go_wp2_with fail
          go_roundw
          case rel => exact ⟨j + 1, hlt, by go_num, HJ.out (HFJ.out.2 ⟨by omega, by omega⟩), HBR.out.trans ((HB1.out.trans (HBX.out.mono HB1.out.size)).mono HBR.out.size)⟩
          case measure => simp [Go.RowKit.intOf]; omega
        · have hi2 : decide (0 ≤ (2 * (B : Int)) ∧ 0 ≤ (2 * (mk : Int)) ∧ (2 * (B : Int)) ≤ (nL : Nat) ∧ (2 * (mk : Int)) ≤ (nL : Nat) - (2 * (B : Int))) = false := by rw [decide_eq_false_iff_not]; omega
          refine wp_region_tree (.step 0 (.step 1 (.step 2 (.step 3 (.step 4 (.step 5 (.step 6 (.step 7 (.step 8 (.step 9 (.step 10 (.step 11 (.step 12 (.step 13 (.step 14 (.step 15 (.step 16 (.step 17 (.step 18 (.step 19 (.step 20 (.step 21 (.step 22 (.step 23 (.step 24 (.step 25 (.step 26 (.step 27 (.step 28 (.step 29 (.step 30 (.step 31 .nil)))))))))))))))))))))))))))))))) (by kernel_rfl) (by kernel_rfl) (by kernel_rfl) (by kernel_rfl) (by intro _ _ d_ _ _ h_; cases d_ <;> first | exact h_ | (dsimp +zetaDelta only at h_ ⊢; exact h_)) (fun w' => ∃ p : Wld V1 [], w' = p.val) (wld_start _ _) ?_
          have hG_ := @wldC V1
          (refine tree_quiet gtA (by rfl) (by rfl) (fun K_ hK_ => ?_); go_big_quiet_op; refine hK_ _ ?_; clear hK_ K_)
          (refine tree_run gtA (by rfl) (by rfl) (fun K_ hK_ => ?_); have HK_ := Lib.hid hK_; clear hK_; go_wp2_with (first | (go_at_call 72; (with_reducible refine (HHE.out _).mono ?_); rintro e wa ⟨rfl, hba⟩; have hac := bc hba; have haf := bf hba; have haz := hba.size; try simp only [World.size_alloc, World.size_drew] at haz) | (go_at_call 74; (with_reducible refine (HMK.out _).mono ?_); rintro e wd ⟨rfl, hbd⟩; have hdc := bc hbd; have hdf := bf hbd; have hdz := hbd.size; try simp only [World.size_alloc, World.size_drew] at hdz) | (go_at_call 73; (with_reducible refine (HI1.out _).mono ?_); rintro e w_ ⟨rfl, rfl⟩; rw [hi1]) | (go_at_call 73; (with_reducible refine (HI2.out _).mono ?_); rintro e w_ ⟨rfl, rfl⟩; rw [hi2])); refine HK_.out _ _ (wld_ofA) ?_; clear HK_)
          (refine tree_quiet gtA (by rfl) (by rfl) (fun K_ hK_ => ?_); go_big_quiet_op; refine hK_ _ ?_; clear hK_ K_)
          (refine tree_quiet gtA (by rfl) (by rfl) (fun K_ hK_ => ?_); go_big_quiet_op; refine hK_ _ ?_; clear hK_ K_)
          (refine tree_quiet gtA (by rfl) (by rfl) (fun K_ hK_ => ?_); go_big_quiet_op; refine hK_ _ ?_; clear hK_ K_)
          (refine tree_quiet gtA (by rfl) (by rfl) (fun K_ hK_ => ?_); go_big_quiet_op; refine hK_ _ ?_; clear hK_ K_)
          (refine tree_quiet gtA (by rfl) (by rfl) (fun K_ hK_ => ?_); go_big_quiet_op; refine hK_ _ ?_; clear hK_ K_)
          (refine tree_quiet gtA (by rfl) (by rfl) (fun K_ hK_ => ?_); go_big_quiet_op; refine hK_ _ ?_; clear hK_ K_)
          (refine tree_quiet gtA (by rfl) (by rfl) (fun K_ hK_ => ?_); go_big_quiet_op; refine hK_ _ ?_; clear hK_ K_)
          (refine tree_quiet gtA (by rfl) (by rfl) (fun K_ hK_ => ?_); go_big_quiet_op; refine hK_ _ ?_; clear hK_ K_)
          (refine tree_run gtA (by rfl) (by rfl) (fun K_ hK_ => ?_); have HK_ := Lib.hid hK_; clear hK_; go_wp2_with (first | (go_at_call 72; (with_reducible refine (HHE.out _).mono ?_); rintro e wa ⟨rfl, hba⟩; have hac := bc hba; have haf := bf hba; have haz := hba.size; try simp only [World.size_alloc, World.size_drew] at haz) | (go_at_call 74; (with_reducible refine (HMK.out _).mono ?_); rintro e wd ⟨rfl, hbd⟩; have hdc := bc hbd; have hdf := bf hbd; have hdz := hbd.size; try simp only [World.size_alloc, World.size_drew] at hdz) | (go_at_call 73; (with_reducible refine (HI1.out _).mono ?_); rintro e w_ ⟨rfl, rfl⟩; rw [hi1]) | (go_at_call 73; (with_reducible refine (HI2.out _).mono ?_); rintro e w_ ⟨rfl, rfl⟩; rw [hi2])); refine HK_.out _ _ (wld_ofA) ?_; clear HK_)
          (refine tree_quiet gtA (by rfl) (by rfl) (fun K_ hK_ => ?_); go_big_quiet_op; refine hK_ _ ?_; clear hK_ K_)
          (refine tree_run gtA (by rfl) (by rfl) (fun K_ hK_ => ?_); have HK_ := Lib.hid hK_; clear hK_; go_wp2_with (first | (go_at_call 72; (with_reducible refine (HHE.out _).mono ?_); rintro e wa ⟨rfl, hba⟩; have hac := bc hba; have haf := bf hba; have haz := hba.size; try simp only [World.size_alloc, World.size_drew] at haz) | (go_at_call 74; (with_reducible refine (HMK.out _).mono ?_); rintro e wd ⟨rfl, hbd⟩; have hdc := bc hbd; have hdf := bf hbd; have hdz := hbd.size; try simp only [World.size_alloc, World.size_drew] at hdz) | (go_at_call 73; (with_reducible refine (HI1.out _).mono ?_); rintro e w_ ⟨rfl, rfl⟩; rw [hi1]) | (go_at_call 73; (with_reducible refine (HI2.out _).mono ?_); rintro e w_ ⟨rfl, rfl⟩; rw [hi2])); refine HK_.out _ _ (wld_ofA) ?_; clear HK_)
          (refine tree_quiet gtA (by rfl) (by rfl) (fun K_ hK_ => ?_); go_big_quiet_op; refine hK_ _ ?_; clear hK_ K_)
          (refine tree_quiet gtA (by rfl) (by rfl) (fun K_ hK_ => ?_); go_big_quiet_op; refine hK_ _ ?_; clear hK_ K_)
          (refine tree_quiet gtA (by rfl) (by rfl) (fun K_ hK_ => ?_); go_big_quiet_op; refine hK_ _ ?_; clear hK_ K_)
          (refine tree_quiet gtA (by rfl) (by rfl) (fun K_ hK_ => ?_); go_big_quiet_op; refine hK_ _ ?_; clear hK_ K_)
          (refine tree_run gtA (by rfl) (by rfl) (fun K_ hK_ => ?_); have HK_ := Lib.hid hK_; clear hK_; go_wp2_with (first | (go_at_call 72; (with_reducible refine (HHE.out _).mono ?_); rintro e wa ⟨rfl, hba⟩; have hac := bc hba; have haf := bf hba; have haz := hba.size; try simp only [World.size_alloc, World.size_drew] at haz) | (go_at_call 74; (with_reducible refine (HMK.out _).mono ?_); rintro e wd ⟨rfl, hbd⟩; have hdc := bc hbd; have hdf := bf hbd; have hdz := hbd.size; try simp only [World.size_alloc, World.size_drew] at hdz) | (go_at_call 73; (with_reducible refine (HI1.out _).mono ?_); rintro e w_ ⟨rfl, rfl⟩; rw [hi1]) | (go_at_call 73; (with_reducible refine (HI2.out _).mono ?_); rintro e w_ ⟨rfl, rfl⟩; rw [hi2])); refine HK_.out _ _ (wld_ofA) ?_; clear HK_)
          (refine tree_quiet gtA (by rfl) (by rfl) (fun K_ hK_ => ?_); go_big_quiet_op; refine hK_ _ ?_; clear hK_ K_)
          (refine tree_quiet gtA (by rfl) (by rfl) (fun K_ hK_ => ?_); go_big_quiet_op; refine hK_ _ ?_; clear hK_ K_)
          (refine tree_quiet gtA (by rfl) (by rfl) (fun K_ hK_ => ?_); go_big_quiet_op; refine hK_ _ ?_; clear hK_ K_)
          (refine tree_quiet gtA (by rfl) (by rfl) (fun K_ hK_ => ?_); go_big_quiet_op; refine hK_ _ ?_; clear hK_ K_)
          (refine tree_quiet gtA (by rfl) (by rfl) (fun K_ hK_ => ?_); go_big_quiet_op; refine hK_ _ ?_; clear hK_ K_)
          (refine tree_quiet gtA (by rfl) (by rfl) (fun K_ hK_ => ?_); go_big_quiet_op; refine hK_ _ ?_; clear hK_ K_)
          (refine tree_quiet gtA (by rfl) (by rfl) (fun K_ hK_ => ?_); go_big_quiet_op; refine hK_ _ ?_; clear hK_ K_)
          (refine tree_quiet gtA (by rfl) (by rfl) (fun K_ hK_ => ?_); go_big_quiet_op; refine hK_ _ ?_; clear hK_ K_)
          (refine tree_run gtA (by rfl) (by rfl) (fun K_ hK_ => ?_); have HK_ := Lib.hid hK_; clear hK_; go_wp2_with (first | (go_at_call 72; (with_reducible refine (HHE.out _).mono ?_); rintro e wa ⟨rfl, hba⟩; have hac := bc hba; have haf := bf hba; have haz := hba.size; try simp only [World.size_alloc, World.size_drew] at haz) | (go_at_call 74; (with_reducible refine (HMK.out _).mono ?_); rintro e wd ⟨rfl, hbd⟩; have hdc := bc hbd; have hdf := bf hbd; have hdz := hbd.size; try simp only [World.size_alloc, World.size_drew] at hdz) | (go_at_call 73; (with_reducible refine (HI1.out _).mono ?_); rintro e w_ ⟨rfl, rfl⟩; rw [hi1]) | (go_at_call 73; (with_reducible refine (HI2.out _).mono ?_); rintro e w_ ⟨rfl, rfl⟩; rw [hi2])); refine HK_.out _ _ (wld_ofA) ?_; clear HK_)
          (refine tree_quiet gtA (by rfl) (by rfl) (fun K_ hK_ => ?_); go_big_quiet_op; refine hK_ _ ?_; clear hK_ K_)
          (refine tree_run gtA (by rfl) (by rfl) (fun K_ hK_ => ?_); have HK_ := Lib.hid hK_; clear hK_; go_wp2_with (first | (go_at_call 72; (with_reducible refine (HHE.out _).mono ?_); rintro e wa ⟨rfl, hba⟩; have hac := bc hba; have haf := bf hba; have haz := hba.size; try simp only [World.size_alloc, World.size_drew] at haz) | (go_at_call 74; (with_reducible refine (HMK.out _).mono ?_); rintro e wd ⟨rfl, hbd⟩; have hdc := bc hbd; have hdf := bf hbd; have hdz := hbd.size; try simp only [World.size_alloc, World.size_drew] at hdz) | (go_at_call 73; (with_reducible refine (HI1.out _).mono ?_); rintro e w_ ⟨rfl, rfl⟩; rw [hi1]) | (go_at_call 73; (with_reducible refine (HI2.out _).mono ?_); rintro e w_ ⟨rfl, rfl⟩; rw [hi2])); refine HK_.out _ _ (wld_ofA) ?_; clear HK_)
          (refine tree_quiet gtA (by rfl) (by rfl) (fun K_ hK_ => ?_); go_big_quiet_op; refine hK_ _ ?_; clear hK_ K_)
          (refine tree_quiet gtA (by rfl) (by rfl) (fun K_ hK_ => ?_); go_big_quiet_op; refine hK_ _ ?_; clear hK_ K_)
          (refine tree_quiet gtA (by rfl) (by rfl) (fun K_ hK_ => ?_); go_big_quiet_op; refine hK_ _ ?_; clear hK_ K_)
          refine tree_nil ?_
          clear hG_
          have HBX := Lib.hid (show Below V1.heap.size V1 wd from by exact blw)
          have HNF := Lib.hid (HNJ.out fun hf => by have := HFJ.out.1 hf; omega)
          have zX := (HBX.out.block _ l14).trans Z14.out
          have qX := fun o => cell_of_heap zX o
          have fX := fun o => froz_of_heap zX o
          have q14 := fun o => cell_of_heap Z14.out o
          have f14 := fun o => froz_of_heap Z14.out o
          have lX := (Array.getElem?_eq_some_iff.1 zX).1
          clear q11 l11
          go_wp2_with fail
          have z4 := heap10_at zX (.slice none 0 0) (.int .i64 0) (.int .i64 0) (.int .i64 0) (.int .i64 0) (.int .i64 0) (.int .i64 0) (.slice none 0 0) (.slice none 0 0) (.slice none 0 0)
          have q4 := fun o => cell_of_heap z4 o
          refine bodyPost_ret (v := .tuple #[.agg #[.slice none 0 0, .int .i64 0, .int .i64 0, .int .i64 0, .int .i64 0, .int .i64 0, .int .i64 0, .slice none 0 0, .slice none 0 0, .slice none 0 0], .bool false]) (by simp [results, Try.results20, go_sem, q4]) rfl ?_
          exact HBOT.out _ _ HNF.out rfl (below10 (HBWR.out.trans ((HB1.out.trans (HBX.out.mono HB1.out.size)).mono HBWR.out.size)) (Nat.le_refl _) _ _ _ _ _ _ _ _ _ _ )
      · have hi1 : decide (0 ≤ (2 * (A : Int)) ∧ 0 ≤ (2 * (hh : Int)) ∧ (2 * (A : Int)) ≤ (nL : Nat) ∧ (2 * (hh : Int)) ≤ (nL : Nat) - (2 * (A : Int))) = false := by rw [decide_eq_false_iff_not]; omega
        refine wp_region_tree (.step 0 (.step 1 (.step 2 (.step 3 (.step 4 (.step 5 (.step 6 (.step 7 (.step 8 (.step 9 (.step 10 (.step 11 (.step 12 (.step 13 (.step 14 (.step 15 (.step 16 (.step 17 (.step 18 (.step 19 (.step 20 (.step 21 (.step 22 (.step 23 (.step 24 (.step 25 (.step 26 (.step 27 (.step 28 (.step 29 (.step 30 (.step 31 .nil)))))))))))))))))))))))))))))))) (by kernel_rfl) (by kernel_rfl) (by kernel_rfl) (by kernel_rfl) (by intro _ _ d_ _ _ h_; cases d_ <;> first | exact h_ | (dsimp +zetaDelta only at h_ ⊢; exact h_)) (fun w' => ∃ p : Wld V1 [], w' = p.val) (wld_start _ _) ?_
        have hG_ := @wldC V1
        (refine tree_quiet gtA (by rfl) (by rfl) (fun K_ hK_ => ?_); go_big_quiet_op; refine hK_ _ ?_; clear hK_ K_)
        (refine tree_run gtA (by rfl) (by rfl) (fun K_ hK_ => ?_); have HK_ := Lib.hid hK_; clear hK_; go_wp2_with (first | (go_at_call 72; (with_reducible refine (HHE.out _).mono ?_); rintro e wa ⟨rfl, hba⟩; have hac := bc hba; have haf := bf hba; have haz := hba.size; try simp only [World.size_alloc, World.size_drew] at haz) | (go_at_call 74; (with_reducible refine (HMK.out _).mono ?_); rintro e wd ⟨rfl, hbd⟩; have hdc := bc hbd; have hdf := bf hbd; have hdz := hbd.size; try simp only [World.size_alloc, World.size_drew] at hdz) | (go_at_call 73; (with_reducible refine (HI1.out _).mono ?_); rintro e w_ ⟨rfl, rfl⟩; rw [hi1]) | (go_at_call 73; (with_reducible refine (HI2.out _).mono ?_); rintro e w_ ⟨rfl, rfl⟩; rw [hi2])); refine HK_.out _ _ (wld_ofA) ?_; clear HK_)
        (refine tree_quiet gtA (by rfl) (by rfl) (fun K_ hK_ => ?_); go_big_quiet_op; refine hK_ _ ?_; clear hK_ K_)
        (refine tree_quiet gtA (by rfl) (by rfl) (fun K_ hK_ => ?_); go_big_quiet_op; refine hK_ _ ?_; clear hK_ K_)
        (refine tree_quiet gtA (by rfl) (by rfl) (fun K_ hK_ => ?_); go_big_quiet_op; refine hK_ _ ?_; clear hK_ K_)
        (refine tree_quiet gtA (by rfl) (by rfl) (fun K_ hK_ => ?_); go_big_quiet_op; refine hK_ _ ?_; clear hK_ K_)
        (refine tree_quiet gtA (by rfl) (by rfl) (fun K_ hK_ => ?_); go_big_quiet_op; refine hK_ _ ?_; clear hK_ K_)
        (refine tree_quiet gtA (by rfl) (by rfl) (fun K_ hK_ => ?_); go_big_quiet_op; refine hK_ _ ?_; clear hK_ K_)
        (refine tree_quiet gtA (by rfl) (by rfl) (fun K_ hK_ => ?_); go_big_quiet_op; refine hK_ _ ?_; clear hK_ K_)
        (refine tree_quiet gtA (by rfl) (by rfl) (fun K_ hK_ => ?_); go_big_quiet_op; refine hK_ _ ?_; clear hK_ K_)
        (refine tree_run gtA (by rfl) (by rfl) (fun K_ hK_ => ?_); have HK_ := Lib.hid hK_; clear hK_; go_wp2_with (first | (go_at_call 72; (with_reducible refine (HHE.out _).mono ?_); rintro e wa ⟨rfl, hba⟩; have hac := bc hba; have haf := bf hba; have haz := hba.size; try simp only [World.size_alloc, World.size_drew] at haz) | (go_at_call 74; (with_reducible refine (HMK.out _).mono ?_); rintro e wd ⟨rfl, hbd⟩; have hdc := bc hbd; have hdf := bf hbd; have hdz := hbd.size; try simp only [World.size_alloc, World.size_drew] at hdz) | (go_at_call 73; (with_reducible refine (HI1.out _).mono ?_); rintro e w_ ⟨rfl, rfl⟩; rw [hi1]) | (go_at_call 73; (with_reducible refine (HI2.out _).mono ?_); rintro e w_ ⟨rfl, rfl⟩; rw [hi2])); refine HK_.out _ _ (wld_ofA) ?_; clear HK_)
        (refine tree_quiet gtA (by rfl) (by rfl) (fun K_ hK_ => ?_); go_big_quiet_op; refine hK_ _ ?_; clear hK_ K_)
        (refine tree_run gtA (by rfl) (by rfl) (fun K_ hK_ => ?_); have HK_ := Lib.hid hK_; clear hK_; go_wp2_with (first | (go_at_call 72; (with_reducible refine (HHE.out _).mono ?_); rintro e wa ⟨rfl, hba⟩; have hac := bc hba; have haf := bf hba; have haz := hba.size; try simp only [World.size_alloc, World.size_drew] at haz) | (go_at_call 74; (with_reducible refine (HMK.out _).mono ?_); rintro e wd ⟨rfl, hbd⟩; have hdc := bc hbd; have hdf := bf hbd; have hdz := hbd.size; try simp only [World.size_alloc, World.size_drew] at hdz) | (go_at_call 73; (with_reducible refine (HI1.out _).mono ?_); rintro e w_ ⟨rfl, rfl⟩; rw [hi1]) | (go_at_call 73; (with_reducible refine (HI2.out _).mono ?_); rintro e w_ ⟨rfl, rfl⟩; rw [hi2])); refine HK_.out _ _ (wld_ofA) ?_; clear HK_)
        (refine tree_quiet gtA (by rfl) (by rfl) (fun K_ hK_ => ?_); go_big_quiet_op; refine hK_ _ ?_; clear hK_ K_)
        (refine tree_quiet gtA (by rfl) (by rfl) (fun K_ hK_ => ?_); go_big_quiet_op; refine hK_ _ ?_; clear hK_ K_)
        (refine tree_quiet gtA (by rfl) (by rfl) (fun K_ hK_ => ?_); go_big_quiet_op; refine hK_ _ ?_; clear hK_ K_)
        refine tree_skip gtA (by rfl) ?_; dsimp only [Act.put]; simp only [List.setIfInBounds_toArray, List.set_cons_succ, List.set_cons_zero]
        refine tree_skip gtA (by rfl) ?_; dsimp only [Act.put]; simp only [List.setIfInBounds_toArray, List.set_cons_succ, List.set_cons_zero]
        refine tree_skip gtA (by rfl) ?_; dsimp only [Act.put]; simp only [List.setIfInBounds_toArray, List.set_cons_succ, List.set_cons_zero]
        refine tree_skip gtA (by rfl) ?_; dsimp only [Act.put]; simp only [List.setIfInBounds_toArray, List.set_cons_succ, List.set_cons_zero]
        refine tree_skip gtA (by rfl) ?_; dsimp only [Act.put]; simp only [List.setIfInBounds_toArray, List.set_cons_succ, List.set_cons_zero]
        refine tree_skip gtA (by rfl) ?_; dsimp only [Act.put]; simp only [List.setIfInBounds_toArray, List.set_cons_succ, List.set_cons_zero]
        refine tree_skip gtA (by rfl) ?_; dsimp only [Act.put]; simp only [List.setIfInBounds_toArray, List.set_cons_succ, List.set_cons_zero]
        refine tree_skip gtA (by rfl) ?_; dsimp only [Act.put]; simp only [List.setIfInBounds_toArray, List.set_cons_succ, List.set_cons_zero]
        refine tree_skip gtA (by rfl) ?_; dsimp only [Act.put]; simp only [List.setIfInBounds_toArray, List.set_cons_succ, List.set_cons_zero]
        refine tree_skip gtA (by rfl) ?_; dsimp only [Act.put]; simp only [List.setIfInBounds_toArray, List.set_cons_succ, List.set_cons_zero]
        refine tree_skip gtA (by rfl) ?_; dsimp only [Act.put]; simp only [List.setIfInBounds_toArray, List.set_cons_succ, List.set_cons_zero]
        refine tree_skip gtA (by rfl) ?_; dsimp only [Act.put]; simp only [List.setIfInBounds_toArray, List.set_cons_succ, List.set_cons_zero]
        refine tree_skip gtA (by rfl) ?_; dsimp only [Act.put]; simp only [List.setIfInBounds_toArray, List.set_cons_succ, List.set_cons_zero]
        refine tree_skip gtA (by rfl) ?_; dsimp only [Act.put]; simp only [List.setIfInBounds_toArray, List.set_cons_succ, List.set_cons_zero]
        refine tree_skip gtA (by rfl) ?_; dsimp only [Act.put]; simp only [List.setIfInBounds_toArray, List.set_cons_succ, List.set_cons_zero]
        (refine tree_quiet gtA (by rfl) (by rfl) (fun K_ hK_ => ?_); go_big_quiet_op; refine hK_ _ ?_; clear hK_ K_)
        refine tree_nil ?_
        clear hG_
        have HBX := Lib.hid (show Below V1.heap.size V1 wa from by exact blw)
        have HNF := Lib.hid (HNJ.out fun hf => by have := HFJ.out.1 hf; omega)
        have zX := (HBX.out.block _ l14).trans Z14.out
        have qX := fun o => cell_of_heap zX o
        have fX := fun o => froz_of_heap zX o
        have q14 := fun o => cell_of_heap Z14.out o
        have f14 := fun o => froz_of_heap Z14.out o
        have lX := (Array.getElem?_eq_some_iff.1 zX).1
        clear q11 l11
        go_wp2_with fail
        have z4 := heap10_at zX (.slice none 0 0) (.int .i64 0) (.int .i64 0) (.int .i64 0) (.int .i64 0) (.int .i64 0) (.int .i64 0) (.slice none 0 0) (.slice none 0 0) (.slice none 0 0)
        have q4 := fun o => cell_of_heap z4 o
        refine bodyPost_ret (v := .tuple #[.agg #[.slice none 0 0, .int .i64 0, .int .i64 0, .int .i64 0, .int .i64 0, .int .i64 0, .int .i64 0, .slice none 0 0, .slice none 0 0, .slice none 0 0], .bool false]) (by simp [results, Try.results20, go_sem, q4]) rfl ?_
        exact HBOT.out _ _ HNF.out rfl (below10 (HBWR.out.trans ((HB1.out.trans (HBX.out.mono HB1.out.size)).mono HBWR.out.size)) (Nat.le_refl _) _ _ _ _ _ _ _ _ _ _ )
    · obtain rfl : NE = j := by omega
      have hio := HIOK.out HALL.out
      have HIO := Lib.hid hio
      clear hio hlt hj
      have q40 := fun o => cell_of_heap ZR4.out o
      have f40 := fun o => froz_of_heap ZR4.out o
      go_wp2_with fail
      have z4 := heap10_at ZR4.out (.slice a n c) (.int .i64 (P0 : Nat)) (.int .i64 (P8 : Nat)) (.int .i64 (P12 : Nat)) (.int .i64 (S : Nat)) (.int .i64 (NE : Nat)) (.int .i64 2) (.slice A4 (n - P4) (c - P4)) (.slice a' LR c') (.slice aL nL cL)
      have q4 := fun o => cell_of_heap z4 o
      refine bodyPost_ret (v := .tuple #[.agg #[.slice a n c, .int .i64 (P0 : Nat), .int .i64 (P8 : Nat), .int .i64 (P12 : Nat), .int .i64 (S : Nat), .int .i64 (NE : Nat), .int .i64 2, .slice A4 (n - P4) (c - P4), .slice a' LR c', .slice aL nL cL], .bool true]) (by simp [results, Try.results20, go_sem, q4]) rfl ?_
      exact HTOP.out _ _ a' c' aL nL cL HIO.out rfl (below10 HBWR.out (Nat.le_refl _) _ _ _ _ _ _ _ _ _ _)
end Go.Proofs.Ytbicnkopmamnpaa
end
