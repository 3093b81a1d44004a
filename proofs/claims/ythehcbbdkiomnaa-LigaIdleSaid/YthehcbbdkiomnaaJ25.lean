/- Joined from: JRefR. -/
import Derived.Test.YthehcbbdkiomnaaJ01
import Derived.Test.YthehcbbdkiomnaaJ24
import Derived.Test.YthehcbbdkiomnaaJ19
import Derived.Test.YthehcbbdkiomnaaJ18
section

/- The document's Read of layer 17: a machine, three lists, actions up to a last one. Conditions: bytes as the slice says; sizes. -/
namespace Go.Proofs.Ythehcbbdkiomnaa
open Go.RowKit Go.Lib

theorem info_rowsJ : (Try.prog.info? 22).map (fun i => (i.zero, i.size, i.bytes)) = some (some (.slice none 0 0), 1, 24) := by kernel_rfl
theorem has12 {W : World} {a : Option Addr} {xs : List Value} (h : Has W a xs) {g : Nat} (hne : xs ≠ [] → ∀ p, a = some p → p.block ≠ g) (v0 v1 v2 v3 v4 v5 v6 v7 v8 v9 v10 v11 : Value) : Has ((((((((((((W.setCell ⟨g, 0, none⟩ v0).setCell ⟨g, 1, none⟩ v1).setCell ⟨g, 2, none⟩ v2).setCell ⟨g, 3, none⟩ v3).setCell ⟨g, 4, none⟩ v4).setCell ⟨g, 5, none⟩ v5).setCell ⟨g, 6, none⟩ v6).setCell ⟨g, 7, none⟩ v7).setCell ⟨g, 8, none⟩ v8).setCell ⟨g, 9, none⟩ v9).setCell ⟨g, 10, none⟩ v10).setCell ⟨g, 11, none⟩ v11) a xs :=
  has_set (has_set (has_set (has_set (has_set (has_set (has_set (has_set (has_set (has_set (has_set (has_set h hne v0) hne v1) hne v2) hne v3) hne v4) hne v5) hne v6) hne v7) hne v8) hne v9) hne v10) hne v11
/-- What it answers. -/
def jrefV (a : Option Addr) (n c : Nat) (bs : List UInt8) (rs : List RP) (S : Nat) (a' : Option Addr) (c' : Nat) : Array Value := #[.slice a n c, .int .i64 (num bs 0 4 : Nat), .int .i64 (num bs 8 4 : Nat), .int .i64 (num bs 12 4 : Nat), .int .i64 (S : Nat), .int .i64 (needE bs S : Nat), .int .i64 1, .slice (adv a c (num bs 4 4)) (n - num bs 4 4) (c - num bs 4 4), .slice a' rs.length c', .slice (adv a c (num bs 16 4)) (n - num bs 16 4) (c - num bs 16 4), .slice (adv a c (num bs 20 4)) (n - num bs 20 4) (c - num bs 20 4), .slice (adv a c (num bs 24 4)) (n - num bs 24 4) (c - num bs 24 4)]
def JReadIs (a : Option Addr) (n c : Nat) (bs : List UInt8) (glyphs : Nat) (w : World) (e : Ending) (w' : World) : Prop :=
  ((∃ (rs : List RP) (S : Nat) (a' : Option Addr) (c' : Nat), JOk bs glyphs rs S ∧ e = .returned (.tuple #[.agg (jrefV a n c bs rs S a' c'), .bool true]) ∧ Has w' a' (encRs rs)) ∨
    ((∀ rs S, ¬ JOk bs glyphs rs S) ∧ e = .returned (.tuple #[.agg #[.slice none 0 0, .int .i64 0, .int .i64 0, .int .i64 0, .int .i64 0, .int .i64 0, .int .i64 0, .slice none 0 0, .slice none 0 0, .slice none 0 0, .slice none 0 0, .slice none 0 0], .bool false]))) ∧ Below w.heap.size w w'
/-- Where a list is there. -/
def FitJ (bs : List UInt8) (q : Nat) : Prop := 16 + 4 * q + 4 ≤ bs.length ∧ num bs (16 + 4 * q) 4 ≤ bs.length
def lsV (lA : Nat → Option Addr) (lN lC : Nat → Nat) (j : Nat) : List Value := (List.range j).map fun q => .slice (lA q) (lN q) (lC q)
theorem lsV_succ (lA : Nat → Option Addr) (lN lC : Nat → Nat) (j : Nat) : lsV lA lN lC j ++ [.slice (lA j) (lN j) (lC j)] = lsV lA lN lC (j + 1) := by simp [lsV, List.range_succ]
/-- What is known of the first actions from one on: they are there, and none is a last one. -/
def NotLast (ac : List UInt8) (A k : Nat) : Prop := ∀ q, A ≤ q → q < k → 4 * q + 4 ≤ ac.length ∧ num ac (4 * q) 4 < 2147483648
theorem NotLast.no {ac : List UInt8} {A k : Nat} (h : NotLast ac A k) (hk : A ≤ k) (he : ac.length < 4 * k + 4) : ¬ GoodA ac A := by
  rintro ⟨q, h1, h2, h3⟩
  rcases Nat.lt_or_ge q k with g | g
  · have := (h q h1 g).2
    omega
  · omega
set_option maxRecDepth 100000 in
set_option maxHeartbeats 12800000 in
theorem refjread_any (a : Option Addr) (n c : Nat) (bs : List UInt8) (glyphs : Nat) (zg : Int) (hzg : zg = (glyphs : Nat)) (w : World) (h : Has w a (bytesV bs)) (hl : bs.length = n) (hn : n ≤ c) (hc : c ≤ maxLen) (h20 : n ≤ 4000) (hg1 : 1 ≤ glyphs) (hg2 : glyphs ≤ 65535) :
    Calls Try.prog 12 #[.slice a n c, .int .i64 zg] w (JReadIs a n c bs glyphs w) := by
  have hAC := allocC
  have hAF := allocF
  subst hzg
  have HU := Lib.hid (fun (j : Nat) (hj : j < 3) (z : Int) (hz : z = 16 + 4 * (j : Int)) W (hW : Below w.heap.size w W) => qAt_any a n c bs (16 + 4 * j) z (by omega) W (h.below hW) hl (Nat.le_trans hn hc) (by omega))
  have HH := Lib.hid h
  have HL := Lib.hid hl
  by_cases hm : ∃ rs S, MOk bs glyphs 1 rs S
  case neg =>
    have hmno : ∀ rs S, ¬ MOk bs glyphs 1 rs S := fun rs S h => hm ⟨rs, S, h⟩
    have HNO := Lib.hid (show ∀ rs S, ¬ JOk bs glyphs rs S from fun rs S hk => hmno rs S hk.mok)
    have HRD := Lib.hid (fun W (hW : Below w.heap.size w W) => show Calls Try.prog 36 #[.slice a n c, .int .i64 (glyphs : Nat), .int .i64 1] W fun e w' => e = .returned (.tuple #[.agg #[.slice none 0 0, .int .i64 0, .int .i64 0, .int .i64 0, .int .i64 0, .int .i64 0, .int .i64 0, .slice none 0 0, .slice none 0 0], .bool false]) ∧ Below W.heap.size W w' from (refM_any a n c bs glyphs 1 (glyphs : Int) 1 rfl rfl W (HH.out.below hW) HL.out hn hc h20 hg1 hg2 (by decide)).mono (by
      rintro e w' ⟨(⟨rs, S, _, _, hk, _⟩ | ⟨_, rfl⟩), hb⟩
      · exact absurd hk (hmno rs S)
      · exact ⟨rfl, hb⟩))
    clear h hl hm hmno HU
    unfold JReadIs
    go_enter Try.func12, Try.ntmps12
    go_wp2_with ((go_at_call 36; (with_reducible refine (HRD.out _ (by exact blw)).mono ?_); rintro e w1 ⟨rfl, hb1⟩; have h1c := bc hb1; have h1f := bf hb1; have h1z := hb1.size; simp only [World.size_alloc] at h1z; have HBW := Lib.hid (show Below w.heap.size w w1 from by exact blw); have X4 := Lib.hid (show w1.heap[w.heap.size]? = some (.cells #[.slice none 0 0, .int .i64 0, .int .i64 0, .int .i64 0, .int .i64 0, .int .i64 0, .int .i64 0, .slice none 0 0, .slice none 0 0, .slice none 0 0, .slice none 0 0, .slice none 0 0] 35 (0, 0)) from (hb1.block _ (by simp)).trans ((heap_push _ _ _).trans (if_pos rfl)))))
    obtain ⟨V, hV⟩ : ∃ V, V = ((w1.alloc (Obj.cells #[.slice none 0 0, .int .i64 0, .int .i64 0, .int .i64 0, .int .i64 0, .int .i64 0, .int .i64 0, .slice none 0 0, .slice none 0 0] 33)).alloc (Obj.cells #[.slice none 0 0, .int .i64 0, .int .i64 0, .int .i64 0, .int .i64 0, .int .i64 0, .int .i64 0, .slice none 0 0, .slice none 0 0, .slice none 0 0, .slice none 0 0, .slice none 0 0] 35)).alloc (Obj.cells #[] 22) := ⟨_, rfl⟩
    have hbV : Below w1.heap.size w1 V := by rw [hV]; exact balloc (balloc (balloc (brefl w1) _) _) _
    have x6 : V.heap[w1.heap.size]? = some (.cells #[.slice none 0 0, .int .i64 0, .int .i64 0, .int .i64 0, .int .i64 0, .int .i64 0, .int .i64 0, .slice none 0 0, .slice none 0 0] 33 (0, 0)) := by rw [hV, heap_push, if_neg (by simp only [World.size_alloc]; omega), heap_push, if_neg (by simp only [World.size_alloc]; omega), heap_push, if_pos rfl]
    have x8 : V.heap[w1.heap.size + 1]? = some (.cells #[.slice none 0 0, .int .i64 0, .int .i64 0, .int .i64 0, .int .i64 0, .int .i64 0, .int .i64 0, .slice none 0 0, .slice none 0 0, .slice none 0 0, .slice none 0 0, .slice none 0 0] 35 (0, 0)) := by rw [hV, heap_push, if_neg (by simp only [World.size_alloc]; omega), heap_push, if_pos (by simp only [World.size_alloc])]
    have XV6 := Lib.hid x6
    have XV8 := Lib.hid x8
    have XV4 := Lib.hid ((hbV.block _ (Array.getElem?_eq_some_iff.1 X4.out).1).trans X4.out)
    have HBV := Lib.hid (HBW.out.trans (hbV.mono HBW.out.size))
    have hg6 : w.heap.size < w1.heap.size := (Array.getElem?_eq_some_iff.1 X4.out).1
    have hzV : V.heap.size = w1.heap.size + 3 := by rw [hV]; simp
    have HOV := Lib.hid (show V.ownsRow (w1.heap.size + 2) 22 1 (.slice (some ⟨w1.heap.size + 2, 0, none⟩) 0 0) 0 [] from by
      obtain ⟨U, hU⟩ : ∃ U, U = (w1.alloc (Obj.cells #[.slice none 0 0, .int .i64 0, .int .i64 0, .int .i64 0, .int .i64 0, .int .i64 0, .int .i64 0, .slice none 0 0, .slice none 0 0] 33)).alloc (Obj.cells #[.slice none 0 0, .int .i64 0, .int .i64 0, .int .i64 0, .int .i64 0, .int .i64 0, .int .i64 0, .slice none 0 0, .slice none 0 0, .slice none 0 0, .slice none 0 0, .slice none 0 0] 35) := ⟨_, rfl⟩
      have hs : U.heap.size = w1.heap.size + 2 := by rw [hU]; simp
      rw [hV, ← hU, ← hs]
      exact World.ownsRow_lit U #[] 0 (Nat.le_refl _) (by decide) rfl)
    have HBV1 := Lib.hid hbV
    simp only [World.size_alloc, Nat.add_assoc, Nat.reduceAdd] at hV ⊢
    rw [← hV]
    clear hV x6 x8 hbV hb1 h1c h1f h1z X4
    go_loopw [7, 10] (fun ok i wr => ok = .bool false ∧ i = .int .i64 0 ∧ Below (w1.heap.size + 2) V wr) (fun _ _ _ => 0)
    case atStart => exact ⟨rfl, rfl, Below.refl _ _⟩
    case round =>
      obtain ⟨rfl, rfl, hb⟩ := hrel
      rename World => wr
      have ZR4 := Lib.hid ((hb.block _ (by omega)).trans XV4.out)
      have HBWR := Lib.hid (HBV.out.trans (hb.mono (by omega)))
      clear hb
      have q40 := fun o => cell_of_heap ZR4.out o
      have f40 := fun o => froz_of_heap ZR4.out o
      have l4 := (Array.getElem?_eq_some_iff.1 ZR4.out).1
      go_wp2_with fail
      have z4 := heap12_at ZR4.out (.slice none 0 0) (.int .i64 0) (.int .i64 0) (.int .i64 0) (.int .i64 0) (.int .i64 0) (.int .i64 0) (.slice none 0 0) (.slice none 0 0) (.slice none 0 0) (.slice none 0 0) (.slice none 0 0)
      have q4 := fun o => cell_of_heap z4 o
      refine bodyPost_ret (v := .tuple #[.agg #[.slice none 0 0, .int .i64 0, .int .i64 0, .int .i64 0, .int .i64 0, .int .i64 0, .int .i64 0, .slice none 0 0, .slice none 0 0, .slice none 0 0, .slice none 0 0, .slice none 0 0], .bool false]) (by simp [results, Try.results12, go_sem, q4]) rfl ?_
      exact ⟨.inr ⟨HNO.out, rfl⟩, (below12 (HBWR.out) (Nat.le_refl _) _ _ _ _ _ _ _ _ _ _ _ _ )⟩
  obtain ⟨rs, S, hm⟩ := hm
  have HMO := Lib.hid hm
  have hrd := fun W (hW : Below w.heap.size w W) => refread_yesN a n c bs glyphs 1 (glyphs : Int) 1 rfl rfl rs S W (HH.out.below hW) HL.out hn hc h20 hg1 hg2 (by decide) hm
  have hen := fun (i : Nat) (hi : i < needE bs S) (a' : Option Addr) (c' : Nat) W (hW : Below w.heap.size w W) => show Calls Try.prog 39 #[.agg (mrefA a n c (num bs 0 4) (num bs 8 4) (num bs 12 4) S (needE bs S) 1 (adv a c (num bs 4 4)) (n - num bs 4 4) (c - num bs 4 4) a' rs.length c'), .int .i64 (i : Nat)] W fun e w' => e = .returned (entV4 (entX (bs.drop (num bs 12 4)) 1 i)) ∧ Below W.heap.size W w' from refE_any a n c bs (num bs 0 4) (num bs 8 4) (num bs 12 4) S (needE bs S) 1 (adv a c (num bs 4 4)) (n - num bs 4 4) (c - num bs 4 4) a' rs.length c' i (i : Int) rfl (by decide) W (HH.out.below hW) HL.out h20 (by
    have h1 := HMO.out.fitE
    have h2 := HMO.out.ents
    have h3 := HL.out
    have : (i + 1) * (4 + 2 * 1) ≤ needE bs S * (4 + 2 * 1) := Nat.mul_le_mul_right _ hi
    omega)
  have HLE := Lib.hid (fun (i : Nat) => entX_le (bs.drop (num bs 12 4)) 1 i)
  have hdet := fun rs' S' (hk : JOk bs glyphs rs' S') => show rs' = rs ∧ S' = S from hk.mok.det hm
  unfold mrefV mrefA at hrd
  unfold mrefA at hen
  rw [show ((1 : Nat) : Int) = 1 from rfl] at hrd hen
  have HEN := Lib.hid hen
  have HRD := Lib.hid hrd
  have hNE : needE bs S ≤ 65536 := needE_le bs S
  have HNOL := Lib.hid (show ∀ q, q < 3 → ¬ FitJ bs q → ∀ rs' S', ¬ JOk bs glyphs rs' S' from fun q hq hnf rs' S' hk => hnf (by
    have h1 := hk.l28
    have h2 := hk.at_
    unfold FitJ
    rcases (by omega : q = 0 ∨ q = 1 ∨ q = 2) with rfl | rfl | rfl
    · exact ⟨by omega, h2.1⟩
    · exact ⟨by omega, h2.2.1⟩
    · exact ⟨by omega, h2.2.2⟩))
  have HQ := Lib.hid (show ∀ q, FitJ bs q ↔ 0 ≤ qAt bs (16 + 4 * q) ∧ qAt bs (16 + 4 * q) ≤ (n : Int) from fun q => by
    have := HL.out
    unfold FitJ qAt
    split <;> omega)
  have HQV := Lib.hid (show ∀ q, FitJ bs q → qAt bs (16 + 4 * q) = (num bs (16 + 4 * q) 4 : Nat) from fun q hf => by unfold qAt; rw [if_pos hf.1])
  have HJOK := Lib.hid (show (∀ q, q < 3 → FitJ bs q) → (∀ k, k < needE bs S → (entX (bs.drop (num bs 12 4)) 1 k).2.1 / 8192 % 2 = 1 → GoodA (bs.drop (num bs 16 4)) (entX (bs.drop (num bs 12 4)) 1 k).2.2.1) → JOk bs glyphs rs S from fun hf hg => by
    obtain ⟨f0, f0'⟩ := hf 0 (by decide)
    obtain ⟨f1, f1'⟩ := hf 1 (by decide)
    obtain ⟨f2, f2'⟩ := hf 2 (by decide)
    refine ⟨hm, by omega, ⟨f0', f1', f2'⟩, fun j hj hF => ?_⟩
    obtain ⟨q, h1, h2, h3⟩ := hg j hj hF
    rw [List.length_drop] at h2
    rw [num_dropS] at h3
    exact ⟨q, h1, by omega, h3⟩)
  have HBADF := Lib.hid (show ∀ k, k < needE bs S → (entX (bs.drop (num bs 12 4)) 1 k).2.1 / 8192 % 2 = 1 → ¬ GoodA (bs.drop (num bs 16 4)) (entX (bs.drop (num bs 12 4)) 1 k).2.2.1 → ∀ rs' S', ¬ JOk bs glyphs rs' S' from fun k hk hF hng rs' S' hio => by
    obtain ⟨rfl, rfl⟩ := hdet rs' S' hio
    obtain ⟨q, h1, h2, h3⟩ := hio.acts k hk hF
    exact hng ⟨q, h1, by rw [List.length_drop]; omega, by rw [num_dropS]; exact h3⟩)
  have HFA := Lib.hid (show FitJ bs 0 → ∀ W, Has W a (bytesV bs) → Has W (adv a c (num bs 16 4)) (bytesV (bs.drop (num bs 16 4))) from fun hf W hW => by
    have := hW.adv c (num bs 16 4) (by rw [bytesV_length, HL.out]; exact hn)
    rwa [bytesV_drop] at this)
  have HTOP := Lib.hid (show ∀ (e : Ending) (w' : World) (a' : Option Addr) (c' : Nat), JOk bs glyphs rs S → e = .returned (.tuple #[.agg (jrefV a n c bs rs S a' c'), .bool true]) → Has w' a' (encRs rs) → Below w.heap.size w w' → JReadIs a n c bs glyphs w e w' from fun e w' a' c' h1 h2 h4 h3 => ⟨.inl ⟨rs, S, a', c', h1, h2, h4⟩, h3⟩)
  have HBOT := Lib.hid (show ∀ (e : Ending) (w' : World), (∀ rs S, ¬ JOk bs glyphs rs S) → e = .returned (.tuple #[.agg #[.slice none 0 0, .int .i64 0, .int .i64 0, .int .i64 0, .int .i64 0, .int .i64 0, .int .i64 0, .slice none 0 0, .slice none 0 0, .slice none 0 0, .slice none 0 0, .slice none 0 0], .bool false]) → Below w.heap.size w w' → JReadIs a n c bs glyphs w e w' from fun e w' h1 h2 h3 => ⟨.inr ⟨h1, h2⟩, h3⟩)
  unfold jrefV at HTOP
  obtain ⟨lA, hlA⟩ : ∃ lA : Nat → Option Addr, lA = fun q => adv a c (num bs (16 + 4 * q) 4) := ⟨_, rfl⟩
  obtain ⟨lN, hlN⟩ : ∃ lN : Nat → Nat, lN = fun q => n - num bs (16 + 4 * q) 4 := ⟨_, rfl⟩
  obtain ⟨lC, hlC⟩ : ∃ lC : Nat → Nat, lC = fun q => c - num bs (16 + 4 * q) 4 := ⟨_, rfl⟩
  have HFR := Lib.hid (show ∀ q, FitJ bs q → ∀ W, Calls Try.prog 37 #[.slice a n c, .int .i64 (qAt bs (16 + 4 * q))] W fun r w' => r = .returned (.tuple #[.slice (lA q) (lN q) (lC q), .bool true]) ∧ W = w' from fun q hf W => by
    rw [HQV.out q hf, hlA, hlN, hlC]
    exact from_ok a n c _ hn (by have := hf.2; rw [HL.out] at this; exact this) W)
  have HFB := Lib.hid (show ∀ q, ¬ FitJ bs q → ∀ W, Calls Try.prog 37 #[.slice a n c, .int .i64 (qAt bs (16 + 4 * q))] W fun r w' => r = .returned (.tuple #[.slice none 0 0, .bool false]) ∧ W = w' from fun q hf W => from_bad a n c _ (by
    have := HQ.out q
    rcases Int.lt_or_le (qAt bs (16 + 4 * q)) 0 with g | g
    · exact .inl g
    · rcases Int.lt_or_le (n : Int) (qAt bs (16 + 4 * q)) with g2 | g2
      · exact .inr g2
      · exact absurd (this.2 ⟨g, g2⟩) hf) W)
  have hl0 : adv a c (num bs 16 4) = lA 0 := by rw [hlA]
  have hl1 : adv a c (num bs 20 4) = lA 1 := by rw [hlA]
  have hl2 : adv a c (num bs 24 4) = lA 2 := by rw [hlA]
  have hn0 : n - num bs 16 4 = lN 0 := by rw [hlN]
  have hn1 : n - num bs 20 4 = lN 1 := by rw [hlN]
  have hn2 : n - num bs 24 4 = lN 2 := by rw [hlN]
  have hc0 : c - num bs 16 4 = lC 0 := by rw [hlC]
  have hc1 : c - num bs 20 4 = lC 1 := by rw [hlC]
  have hc2 : c - num bs 24 4 = lC 2 := by rw [hlC]
  rw [hl0] at HFA
  have HNL := Lib.hid (show (bs.drop (num bs 16 4)).length = lN 0 from by rw [List.length_drop, HL.out, hn0])
  have hlN0 : lN 0 ≤ 4000 := by rw [← hn0]; omega
  simp only [hl0, hl1, hl2, hn0, hn1, hn2, hc0, hc1, hc2] at HTOP
  generalize JReadIs a n c bs glyphs w = POST at *
  clear h hl hm hen hrd hdet HMO hlA hlN hlC hl0 hl1 hl2 hn0 hn1 hn2 hc0 hc1 hc2 HQ HQV
  generalize bs.drop (num bs 16 4) = ac at *
  generalize bs.drop (num bs 12 4) = vb at *
  generalize num bs 0 4 = P0 at *
  generalize num bs 4 4 = P4 at *
  generalize num bs 8 4 = P8 at *
  generalize num bs 12 4 = P12 at *
  generalize needE bs S = NE at *
  generalize adv a c P4 = A4 at *
  generalize rs.length = lenR at *
  go_enter Try.func12, Try.ntmps12
  go_wp2_with ((go_at_call 36; (with_reducible refine (HRD.out _ (by exact blw)).mono ?_); rintro e w1 ⟨a', c', rfl, hHN, hb1⟩; have h1c := bc hb1; have h1f := bf hb1; have h1z := hb1.size; simp only [World.size_alloc] at h1z; have HBW := Lib.hid (show Below w.heap.size w w1 from by exact blw); have X4 := Lib.hid (show w1.heap[w.heap.size]? = some (.cells #[.slice none 0 0, .int .i64 0, .int .i64 0, .int .i64 0, .int .i64 0, .int .i64 0, .int .i64 0, .slice none 0 0, .slice none 0 0, .slice none 0 0, .slice none 0 0, .slice none 0 0] 35 (0, 0)) from (hb1.block _ (by simp)).trans ((heap_push _ _ _).trans (if_pos rfl))); have HHN := Lib.hid hHN; clear hHN))
  obtain ⟨V, hV⟩ : ∃ V, V = ((w1.alloc (Obj.cells #[.slice a n c, .int .i64 (P0 : Nat), .int .i64 (P8 : Nat), .int .i64 (P12 : Nat), .int .i64 (S : Nat), .int .i64 (NE : Nat), .int .i64 1, .slice A4 (n - P4) (c - P4), .slice a' lenR c'] 33)).alloc (Obj.cells #[.slice a n c, .int .i64 (P0 : Nat), .int .i64 (P8 : Nat), .int .i64 (P12 : Nat), .int .i64 (S : Nat), .int .i64 (NE : Nat), .int .i64 1, .slice A4 (n - P4) (c - P4), .slice a' lenR c', .slice none 0 0, .slice none 0 0, .slice none 0 0] 35)).alloc (Obj.cells #[] 22) := ⟨_, rfl⟩
  have hbV : Below w1.heap.size w1 V := by rw [hV]; exact balloc (balloc (balloc (brefl w1) _) _) _
  have x6 : V.heap[w1.heap.size]? = some (.cells #[.slice a n c, .int .i64 (P0 : Nat), .int .i64 (P8 : Nat), .int .i64 (P12 : Nat), .int .i64 (S : Nat), .int .i64 (NE : Nat), .int .i64 1, .slice A4 (n - P4) (c - P4), .slice a' lenR c'] 33 (0, 0)) := by rw [hV, heap_push, if_neg (by simp only [World.size_alloc]; omega), heap_push, if_neg (by simp only [World.size_alloc]; omega), heap_push, if_pos rfl]
  have x8 : V.heap[w1.heap.size + 1]? = some (.cells #[.slice a n c, .int .i64 (P0 : Nat), .int .i64 (P8 : Nat), .int .i64 (P12 : Nat), .int .i64 (S : Nat), .int .i64 (NE : Nat), .int .i64 1, .slice A4 (n - P4) (c - P4), .slice a' lenR c', .slice none 0 0, .slice none 0 0, .slice none 0 0] 35 (0, 0)) := by rw [hV, heap_push, if_neg (by simp only [World.size_alloc]; omega), heap_push, if_pos (by simp only [World.size_alloc])]
  have XV6 := Lib.hid x6
  have XV8 := Lib.hid x8
  have XV4 := Lib.hid ((hbV.block _ (Array.getElem?_eq_some_iff.1 X4.out).1).trans X4.out)
  have HBV := Lib.hid (HBW.out.trans (hbV.mono HBW.out.size))
  have hg6 : w.heap.size < w1.heap.size := (Array.getElem?_eq_some_iff.1 X4.out).1
  have hzV : V.heap.size = w1.heap.size + 3 := by rw [hV]; simp
  have HOV := Lib.hid (show V.ownsRow (w1.heap.size + 2) 22 1 (.slice (some ⟨w1.heap.size + 2, 0, none⟩) 0 0) 0 [] from by
    obtain ⟨U, hU⟩ : ∃ U, U = (w1.alloc (Obj.cells #[.slice a n c, .int .i64 (P0 : Nat), .int .i64 (P8 : Nat), .int .i64 (P12 : Nat), .int .i64 (S : Nat), .int .i64 (NE : Nat), .int .i64 1, .slice A4 (n - P4) (c - P4), .slice a' lenR c'] 33)).alloc (Obj.cells #[.slice a n c, .int .i64 (P0 : Nat), .int .i64 (P8 : Nat), .int .i64 (P12 : Nat), .int .i64 (S : Nat), .int .i64 (NE : Nat), .int .i64 1, .slice A4 (n - P4) (c - P4), .slice a' lenR c', .slice none 0 0, .slice none 0 0, .slice none 0 0] 35) := ⟨_, rfl⟩
    have hs : U.heap.size = w1.heap.size + 2 := by rw [hU]; simp
    rw [hV, ← hU, ← hs]
    exact World.ownsRow_lit U #[] 0 (Nat.le_refl _) (by decide) rfl)
  have HBV1 := Lib.hid hbV
  simp only [World.size_alloc, Nat.add_assoc, Nat.reduceAdd] at hV ⊢
  rw [← hV]
  clear hV x6 x8 hbV hb1 h1c h1f h1z X4
  have HEN2 := Lib.hid (fun i hi W hW => HEN.out i hi a' c' W hW)
  clear HEN HRD
  generalize hg6e : w1.heap.size = g6 at *
  go_loopw [7, 9, 10] (fun ok ls i wr => ∃ (j : Nat) (okb : Bool) (ax : Option Addr) (cx : Nat) (xs : List Value), j ≤ 3 ∧ i = .int .i64 (j : Nat) ∧ ok = .bool okb ∧ ls = .slice ax j cx ∧ wr.ownsRow (g6 + 2) 22 1 (.slice ax j cx) j xs ∧ (okb = true → xs = lsV lA lN lC j ∧ ∀ q, q < j → FitJ bs q) ∧ (okb = false → ∃ q, q < 3 ∧ ¬ FitJ bs q) ∧ Below (g6 + 2) V wr) (fun _ _ i _ => 3 - (Go.RowKit.intOf i).toNat)
  case atStart => exact ⟨0, true, _, 0, [], by decide, rfl, rfl, rfl, HOV.out, (fun _ => ⟨rfl, fun q hq => by omega⟩), (fun h => by cases h), Below.refl _ _⟩
  case round =>
    obtain ⟨j, okb, ax, cx, xs, hj, rfl, rfl, rfl, ho, hyes, hno, hb⟩ := hrel
    rename World => wr
    have HO := Lib.hid ho
    have HB := Lib.hid hb
    have hgr : g6 + 2 ≤ wr.heap.size := by have := hb.size; omega
    have ZR4 := Lib.hid ((hb.block _ (by omega)).trans XV4.out)
    have ZR6 := Lib.hid ((hb.block _ (by omega)).trans XV6.out)
    have ZR8 := Lib.hid ((hb.block _ (by omega)).trans XV8.out)
    have HBWR := Lib.hid (HBV.out.trans (hb.mono (by omega)))
    have l4 := (Array.getElem?_eq_some_iff.1 ZR4.out).1
    clear ho hb
    cases okb with
    | false =>
      obtain ⟨q, hq, hnf⟩ := hno rfl
      have HNO := Lib.hid (HNOL.out q hq hnf)
      clear hyes hno hnf
      have q40 := fun o => cell_of_heap ZR4.out o
      have f40 := fun o => froz_of_heap ZR4.out o
      by_cases hlt : j < 3
      · have dj : decide ((j : Int) < 3) = true := by simp; omega
        have dj2 : decide (j < 3) = true := by simpa using hlt
        go_wp2_with fail
        have z4 := heap12_at ZR4.out (.slice none 0 0) (.int .i64 0) (.int .i64 0) (.int .i64 0) (.int .i64 0) (.int .i64 0) (.int .i64 0) (.slice none 0 0) (.slice none 0 0) (.slice none 0 0) (.slice none 0 0) (.slice none 0 0)
        have q4 := fun o => cell_of_heap z4 o
        refine bodyPost_ret (v := .tuple #[.agg #[.slice none 0 0, .int .i64 0, .int .i64 0, .int .i64 0, .int .i64 0, .int .i64 0, .int .i64 0, .slice none 0 0, .slice none 0 0, .slice none 0 0, .slice none 0 0, .slice none 0 0], .bool false]) (by simp [results, Try.results12, go_sem, q4]) rfl ?_
        exact HBOT.out _ _ HNO.out rfl (below12 (HBWR.out) (Nat.le_refl _) _ _ _ _ _ _ _ _ _ _ _ _ )
      · have dj : decide ((j : Int) < 3) = false := by simp; omega
        have dj2 : decide (j < 3) = false := by simp; omega
        go_wp2_with fail
        have z4 := heap12_at ZR4.out (.slice none 0 0) (.int .i64 0) (.int .i64 0) (.int .i64 0) (.int .i64 0) (.int .i64 0) (.int .i64 0) (.slice none 0 0) (.slice none 0 0) (.slice none 0 0) (.slice none 0 0) (.slice none 0 0)
        have q4 := fun o => cell_of_heap z4 o
        refine bodyPost_ret (v := .tuple #[.agg #[.slice none 0 0, .int .i64 0, .int .i64 0, .int .i64 0, .int .i64 0, .int .i64 0, .int .i64 0, .slice none 0 0, .slice none 0 0, .slice none 0 0, .slice none 0 0, .slice none 0 0], .bool false]) (by simp [results, Try.results12, go_sem, q4]) rfl ?_
        exact HBOT.out _ _ HNO.out rfl (below12 (HBWR.out) (Nat.le_refl _) _ _ _ _ _ _ _ _ _ _ _ _ )
    | true =>
      obtain ⟨rfl, hfit⟩ := hyes rfl
      have HFIT := Lib.hid hfit
      clear hyes hno hfit
      by_cases hlt : j < 3
      · have dj : decide ((j : Int) < 3) = true := by simp; omega
        have dj2 : decide (j < 3) = true := by simpa using hlt
        have f4 : IntKind.i64.wrap (4 * (j : Int)) = 4 * (j : Int) := IntWalk.i64_in _ (by omega)
        have f16 : IntKind.i64.wrap (16 + 4 * (j : Int)) = 16 + 4 * (j : Int) := IntWalk.i64_in _ (by omega)
        have HUJ := Lib.hid (fun W hW => HU.out j hlt (16 + 4 * (j : Int)) rfl W hW)
        have bAe := fun v => balloc (brefl wr) (Obj.cells #[v] 22)
        by_cases hf : FitJ bs j
        · have HFRJ := Lib.hid (HFR.out j hf)
          have HLS := Lib.hid (lsV_succ lA lN lC j)
          have HF := Lib.hid hf
          clear hf
          generalize qAt bs (16 + 4 * j) = Q at *
          generalize lA j = Aj at *
          generalize lN j = Nj at *
          generalize lC j = Cj at *
          go_wp2_with (first
            | (go_at_call 38; (with_reducible refine (HUJ.out _ (by first | exact HBWR.out | exact blw)).mono ?_); rintro e wu ⟨rfl, rfl⟩)
            | (go_at_call 37; (with_reducible refine (HFRJ.out _).mono ?_); rintro e wu ⟨rfl, rfl⟩)
            | (at_builtin; refine wpApp rfl _ _ 48 rfl (g6 + 2) 22 (.slice none 0 0) 1 24 Try.underlying48 info_rowsJ rfl (by decide) _ j (lsV lA lN lC j) rfl (owns_below HO.out (bAe (.slice Aj Nj Cj)) (Nat.le_refl _)) (some ⟨wr.heap.size, 0, none⟩) 1 1 [.slice Aj Nj Cj] rfl rfl (has_alloc wr #[.slice Aj Nj Cj] 22) (fun h => by cases h) (fun u hu => by simp at hu; subst hu; rfl) (by unfold maxLen; omega) (by omega) (by simp; omega) ?_; intro a9 c9 w9 hown9 k91 k92 k93 hb9 hg9; have HO9 := Lib.hid hown9; have HB9 := Lib.hid (HB.out.trans (((bAe (.slice Aj Nj Cj)).mono (by omega)).trans hb9)); clear hown9 hb9 hg9))
          go_roundw
          case rel => exact ⟨j + 1, true, a9, c9, _, hlt, by go_num, rfl, rfl, HO9.out, (fun _ => ⟨HLS.out, fun q hq => by
            rcases Nat.lt_or_ge q j with g | g
            · exact HFIT.out q g
            · rw [show q = j by omega]; exact HF.out⟩), (fun h => by cases h), HB9.out⟩
          case measure => simp [Go.RowKit.intOf]; omega
        · have HFRJ := Lib.hid (HFB.out j hf)
          have HF := Lib.hid hf
          clear hf
          generalize qAt bs (16 + 4 * j) = Q at *
          go_wp2_with (first
            | (go_at_call 38; (with_reducible refine (HUJ.out _ (by first | exact HBWR.out | exact blw)).mono ?_); rintro e wu ⟨rfl, rfl⟩)
            | (go_at_call 37; (with_reducible refine (HFRJ.out _).mono ?_); rintro e wu ⟨rfl, rfl⟩)
            | (at_builtin; refine wpApp rfl _ _ 48 rfl (g6 + 2) 22 (.slice none 0 0) 1 24 Try.underlying48 info_rowsJ rfl (by decide) _ j (lsV lA lN lC j) rfl (owns_below HO.out (bAe (.slice none 0 0)) (Nat.le_refl _)) (some ⟨wr.heap.size, 0, none⟩) 1 1 [.slice none 0 0] rfl rfl (has_alloc wr #[.slice none 0 0] 22) (fun h => by cases h) (fun u hu => by simp at hu; subst hu; rfl) (by unfold maxLen; omega) (by omega) (by simp; omega) ?_; intro a9 c9 w9 hown9 k91 k92 k93 hb9 hg9; have HO9 := Lib.hid hown9; have HB9 := Lib.hid (HB.out.trans (((bAe (.slice none 0 0)).mono (by omega)).trans hb9)); clear hown9 hb9 hg9))
          go_roundw
          case rel => exact ⟨j + 1, false, a9, c9, _, hlt, by go_num, rfl, rfl, HO9.out, (fun h => by cases h), (fun _ => ⟨j, hlt, HF.out⟩), HB9.out⟩
          case measure => simp [Go.RowKit.intOf]; omega
      · obtain rfl : j = 3 := by omega
        clear hlt hj
        obtain ⟨gA, csA, uA, haA, hgA, hhA, hcA, _, hfA, _⟩ := row_at HO.out 0 (by decide)
        subst haA
        have k0 := (HO.out.cellAt 0 (by decide)).trans (show _ = some (Value.slice (lA 0) (lN 0) (lC 0)) from rfl)
        have k1 := (HO.out.cellAt 1 (by decide)).trans (show _ = some (Value.slice (lA 1) (lN 1) (lC 1)) from rfl)
        have k2 := (HO.out.cellAt 2 (by decide)).trans (show _ = some (Value.slice (lA 2) (lN 2) (lC 2)) from rfl)
        have lA8 := cell_lt k0
        simp only at lA8
        have q8 := fun o => cell_of_heap ZR8.out o
        have f8 := fun o => froz_of_heap ZR8.out o
        have l8 := (Array.getElem?_eq_some_iff.1 ZR8.out).1
        have hgA8 : gA ≠ g6 + 1 := by omega
        have h33 : ((3 : Nat) : Int) = 3 := rfl
        clear hhA hcA hfA
        simp only [h33]
        go_wp2_with fail
        obtain ⟨V3, hV3⟩ : ∃ V3, V3 = (((wr.setCell ⟨g6 + 1, 9, none⟩ (.slice (lA 0) (lN 0) (lC 0))).setCell ⟨g6 + 1, 10, none⟩ (.slice (lA 1) (lN 1) (lC 1))).setCell ⟨g6 + 1, 11, none⟩ (.slice (lA 2) (lN 2) (lC 2))) := ⟨_, rfl⟩
        have x8 := set_heap_at (o := 11) (.slice (lA 2) (lN 2) (lC 2)) (set_heap_at (o := 10) (.slice (lA 1) (lN 1) (lC 1)) (set_heap_at (o := 9) (.slice (lA 0) (lN 0) (lC 0)) ZR8.out))
        simp only [List.setIfInBounds_toArray, List.set_cons_succ, List.set_cons_zero] at x8
        rw [← hV3] at x8
        have x6 := (set_heap_other (o := 11) (.slice (lA 2) (lN 2) (lC 2)) (show g6 ≠ g6 + 1 by omega)).trans ((set_heap_other (o := 10) (.slice (lA 1) (lN 1) (lC 1)) (show g6 ≠ g6 + 1 by omega)).trans ((set_heap_other (o := 9) (.slice (lA 0) (lN 0) (lC 0)) (show g6 ≠ g6 + 1 by omega)).trans ZR6.out))
        rw [← hV3] at x6
        have x4 := (set_heap_other (o := 11) (.slice (lA 2) (lN 2) (lC 2)) (show w.heap.size ≠ g6 + 1 by omega)).trans ((set_heap_other (o := 10) (.slice (lA 1) (lN 1) (lC 1)) (show w.heap.size ≠ g6 + 1 by omega)).trans ((set_heap_other (o := 9) (.slice (lA 0) (lN 0) (lC 0)) (show w.heap.size ≠ g6 + 1 by omega)).trans ZR4.out))
        rw [← hV3] at x4
        have hwg : w.heap.size ≤ g6 + 1 := by omega
        have HB3 := Lib.hid (show Below w.heap.size w V3 from by rw [hV3]; exact ((HBWR.out.setCell (p := ⟨g6 + 1, 9, none⟩) hwg _).setCell (p := ⟨g6 + 1, 10, none⟩) hwg _).setCell (p := ⟨g6 + 1, 11, none⟩) hwg _)
        have hgg : g6 ≤ g6 + 1 := by omega
        have HW3 := Lib.hid (show Below g6 w1 V3 from by rw [hV3]; exact (((HBV1.out.trans (HB.out.mono (by omega))).setCell (p := ⟨g6 + 1, 9, none⟩) hgg _).setCell (p := ⟨g6 + 1, 10, none⟩) hgg _).setCell (p := ⟨g6 + 1, 11, none⟩) hgg _)
        have X8 := Lib.hid x8
        have X6 := Lib.hid x6
        have X4 := Lib.hid x4
        have hg8V : g6 + 1 < V3.heap.size := (Array.getElem?_eq_some_iff.1 x8).1
        rw [← hV3]
        clear hV3 x8 x6 x4 q8 f8 l8 k0 k1 k2 lA8 hgA8 HO HB ZR4 ZR6 ZR8 HBWR
        go_loopw [13] (fun i wq => ∃ k : Nat, k ≤ NE ∧ i = .int .i64 (k : Nat) ∧ (∀ m, m < k → (entX vb 1 m).2.1 / 8192 % 2 = 1 → GoodA ac (entX vb 1 m).2.2.1) ∧ Below V3.heap.size V3 wq) (fun i _ => NE - (Go.RowKit.intOf i).toNat)
        case atStart => exact ⟨0, Nat.zero_le _, rfl, fun m hm => by omega, Below.refl _ _⟩
        case round =>
          obtain ⟨k, hk, rfl, hall, hb⟩ := hrel
          rename World => wq
          have HALL := Lib.hid hall
          have HBQ3 := Lib.hid hb
          have Z4 := Lib.hid ((hb.block _ (Array.getElem?_eq_some_iff.1 X4.out).1).trans X4.out)
          have Z8 := Lib.hid ((hb.block _ (Array.getElem?_eq_some_iff.1 X8.out).1).trans X8.out)
          have z6 := (hb.block _ (Array.getElem?_eq_some_iff.1 X6.out).1).trans X6.out
          have HBQ := Lib.hid (HB3.out.trans (hb.mono HB3.out.size))
          have q6 := fun o => cell_of_heap z6 o
          have l6 := (Array.getElem?_eq_some_iff.1 z6).1
          have l8 := (Array.getElem?_eq_some_iff.1 Z8.out).1
          have l4 := (Array.getElem?_eq_some_iff.1 Z4.out).1
          clear hall hb z6
          by_cases hlt : k < NE
          · have hle := HLE.out k
            have hen := HEN2.out k hlt
            have hnj := HBADF.out k hlt
            have HJ := Lib.hid (fun (h : (entX vb 1 k).2.1 / 8192 % 2 = 1 → GoodA ac (entX vb 1 k).2.2.1) m (hm : m < k + 1) => show (entX vb 1 m).2.1 / 8192 % 2 = 1 → GoodA ac (entX vb 1 m).2.2.1 from by
              rcases Nat.lt_or_ge m k with g | g
              · exact HALL.out m g
              · rw [show m = k by omega]; exact h)
            unfold entV4 at hen
            generalize entX vb 1 k = E at *
            obtain ⟨e0, F, A, B⟩ := E
            simp only at hle hen hnj HJ
            have HEN := Lib.hid hen
            have HNJ := Lib.hid hnj
            have hA := hle.2.2.1
            have hF := hle.2.1
            have g1 : (F : Int).tdiv 8192 = ((F / 8192 : Nat) : Int) := by rw [Int.tdiv_eq_ediv_of_nonneg (by omega)]; omega
            have g2 : IntKind.i64.wrap ((F / 8192 : Nat) : Int) = ((F / 8192 : Nat) : Int) := IntWalk.i64_in _ (by omega)
            have g3 : ((F / 8192 : Nat) : Int).tmod 2 = ((F / 8192 % 2 : Nat) : Int) := by rw [Int.tmod_eq_emod_of_nonneg (by omega)]; omega
            have g4 : IntKind.i64.wrap ((F / 8192 % 2 : Nat) : Int) = ((F / 8192 % 2 : Nat) : Int) := IntWalk.i64_in _ (by omega)
            have dk : decide ((k : Int) < (NE : Int)) = true := by simpa using hlt
            have dk2 : decide (k < NE) = true := by simpa using hlt
            clear hen hnj hle
            by_cases hfl : F / 8192 % 2 = 1
            case neg =>
              have d0 : (((F / 8192 % 2 : Nat) : Int) == 0) = true := by simp; omega
              have HOK := Lib.hid (HJ.out fun h => absurd h hfl)
              clear hfl
              generalize F / 8192 % 2 = y at *
              generalize F / 8192 = y2 at *
              go_wp2_with (go_at_call 39; (with_reducible refine (HEN.out wq HBQ.out).mono ?_); rintro e wE ⟨rfl, hbE⟩; have HBE := Lib.hid hbE; clear hbE q6)
              go_roundw
              case rel => exact ⟨k + 1, hlt, by go_num, HOK.out, HBQ3.out.trans ((HBE.out.trans ((balloc (brefl wE) _).mono HBE.out.size)).mono HBQ3.out.size)⟩
              case measure => simp [Go.RowKit.intOf]; omega
            have d0 : (((F / 8192 % 2 : Nat) : Int) == 0) = false := by simp; omega
            have HNG := Lib.hid (HNJ.out hfl)
            have HOK := Lib.hid (fun h => HJ.out fun _ => h)
            clear hfl
            generalize F / 8192 % 2 = y at *
            generalize F / 8192 = y2 at *
            go_wp2_with (go_at_call 39; (with_reducible refine (HEN.out wq HBQ.out).mono ?_); rintro e wE ⟨rfl, hbE⟩; have HBE := Lib.hid hbE; clear hbE q6)
            obtain ⟨V5, hV5⟩ : ∃ V5, V5 = wE.alloc (Obj.cells #[.int .i64 (e0 : Nat), .int .i64 (F : Nat), .int .i64 (A : Nat), .int .i64 (B : Nat)] 59) := ⟨_, rfl⟩
            have hb5 : Below wq.heap.size wq V5 := by rw [hV5]; exact HBE.out.trans ((balloc (brefl wE) _).mono HBE.out.size)
            have Y8 := Lib.hid ((hb5.block _ l8).trans Z8.out)
            have Y4 := Lib.hid ((hb5.block _ l4).trans Z4.out)
            have HB5 := Lib.hid (HBQ.out.trans (hb5.mono HBQ.out.size))
            have HB53 := Lib.hid (HBQ3.out.trans (hb5.mono HBQ3.out.size))
            rw [← hV5]
            clear hV5 hb5 d0 g1 g2 g3 g4
            go_loopw [15] (fun i wz => ∃ q : Nat, i = .int .i64 (q : Nat) ∧ A ≤ q ∧ q ≤ 70000 ∧ NotLast ac A q ∧ Below V5.heap.size V5 wz) (fun i _ => 70001 - (Go.RowKit.intOf i).toNat)
            case atStart => exact ⟨A, rfl, Nat.le_refl _, by omega, fun m h1 h2 => by omega, Below.refl _ _⟩
            case round =>
              obtain ⟨q, rfl, hAq, hq7, hnl, hb⟩ := hrel
              rename World => wz
              have HNT := Lib.hid hnl
              have HBZ5 := Lib.hid hb
              have U4 := Lib.hid ((hb.block _ (Array.getElem?_eq_some_iff.1 Y4.out).1).trans Y4.out)
              have u8 := (hb.block _ (Array.getElem?_eq_some_iff.1 Y8.out).1).trans Y8.out
              have HBZ := Lib.hid (HB5.out.trans (hb.mono HB5.out.size))
              have HBZ3 := Lib.hid (HB53.out.trans (hb.mono HB53.out.size))
              have q8 := fun o => cell_of_heap u8 o
              have l8z := (Array.getElem?_eq_some_iff.1 u8).1
              have q40 := fun o => cell_of_heap U4.out o
              have f40 := fun o => froz_of_heap U4.out o
              have l4z := (Array.getElem?_eq_some_iff.1 U4.out).1
              have w4 : IntKind.i64.wrap (4 * (q : Int)) = 4 * (q : Int) := IntWalk.i64_in _ (by omega)
              have hu := qAt_any (lA 0) (lN 0) (lC 0) ac (4 * q) (4 * (q : Int)) (by omega) wz (HFA.out (HFIT.out 0 (by decide)) wz (HH.out.below HBZ.out)) HNL.out (by unfold maxLen; omega) (by omega)
              clear hb hnl u8
              unfold qAt at hu
              by_cases hlen : 4 * q + 4 ≤ ac.length
              · rw [if_pos hlen] at hu
                have hx4 := num4_lt ac (4 * q)
                by_cases hx : 2147483648 ≤ num ac (4 * q) 4
                · have HG := Lib.hid (HOK.out ⟨q, hAq, hlen, hx⟩)
                  generalize num ac (4 * q) 4 = x at *
                  have HU1 := Lib.hid hu
                  have dl : decide ((2147483648 : Int) ≤ (x : Int)) = true := by simp; omega
                  have HLST := Lib.hid (fun W => show Calls Try.prog 40 #[.int .i64 (x : Nat)] W fun e w' => e = .returned (.bool true) ∧ W = w' from dl ▸ lastR_any (x : Nat) W)
                  clear hu dl hx
                  go_wp2_with (first
                    | (go_at_call 38; (with_reducible refine HU1.out.mono ?_); rintro e wu ⟨rfl, rfl⟩)
                    | (go_at_call 40; (with_reducible refine (HLST.out _).mono ?_); rintro e wu ⟨rfl, rfl⟩))
                  go_roundw
                  case rel => exact ⟨k + 1, hlt, by go_num, HG.out, HBZ3.out⟩
                  case measure => simp [Go.RowKit.intOf]; omega
                · have HG := Lib.hid (show NotLast ac A (q + 1) from fun m h1 h2 => by
                    rcases Nat.lt_or_ge m q with g | g
                    · exact HNT.out m h1 g
                    · rw [show m = q by omega]; exact ⟨hlen, by omega⟩)
                  have hq1 : q + 1 ≤ 70000 := by have := HNL.out; omega
                  generalize num ac (4 * q) 4 = x at *
                  have HU1 := Lib.hid hu
                  have dl : decide ((2147483648 : Int) ≤ (x : Int)) = false := by simp; omega
                  have d0 : decide ((x : Int) < 0) = false := by simp
                  have HLST := Lib.hid (fun W => show Calls Try.prog 40 #[.int .i64 (x : Nat)] W fun e w' => e = .returned (.bool false) ∧ W = w' from dl ▸ lastR_any (x : Nat) W)
                  clear hu dl hx
                  go_wp2_with (first
                    | (go_at_call 38; (with_reducible refine HU1.out.mono ?_); rintro e wu ⟨rfl, rfl⟩)
                    | (go_at_call 40; (with_reducible refine (HLST.out _).mono ?_); rintro e wu ⟨rfl, rfl⟩))
                  go_roundw
                  case rel => exact ⟨q + 1, by go_num, by omega, hq1, HG.out, HBZ5.out⟩
                  case measure => simp [Go.RowKit.intOf]; omega
              · rw [if_neg hlen] at hu
                have HNF := Lib.hid (HNG.out (HNT.out.no hAq (by omega)))
                have HU1 := Lib.hid hu
                have HLST := Lib.hid (fun W => show Calls Try.prog 40 #[.int .i64 (-1)] W fun e w' => e = .returned (.bool false) ∧ W = w' from (show decide ((2147483648 : Int) ≤ -1) = false by decide) ▸ lastR_any (-1) W)
                clear hu
                go_wp2_with (first
                  | (go_at_call 38; (with_reducible refine HU1.out.mono ?_); rintro e wu ⟨rfl, rfl⟩)
                  | (go_at_call 40; (with_reducible refine (HLST.out _).mono ?_); rintro e wu ⟨rfl, rfl⟩))
                have z4 := heap12_at U4.out (.slice none 0 0) (.int .i64 0) (.int .i64 0) (.int .i64 0) (.int .i64 0) (.int .i64 0) (.int .i64 0) (.slice none 0 0) (.slice none 0 0) (.slice none 0 0) (.slice none 0 0) (.slice none 0 0)
                have q4 := fun o => cell_of_heap z4 o
                refine bodyPost_ret (v := .tuple #[.agg #[.slice none 0 0, .int .i64 0, .int .i64 0, .int .i64 0, .int .i64 0, .int .i64 0, .int .i64 0, .slice none 0 0, .slice none 0 0, .slice none 0 0, .slice none 0 0, .slice none 0 0], .bool false]) (by simp [results, Try.results12, go_sem, q4]) rfl ?_
                exact HBOT.out _ _ HNF.out rfl (below12 (HBZ.out) (Nat.le_refl _) _ _ _ _ _ _ _ _ _ _ _ _ )
          · obtain rfl : NE = k := by omega
            have hio := HJOK.out HFIT.out HALL.out
            have HIO := Lib.hid hio
            have HNB := Lib.hid (show encRs rs ≠ [] → ∀ p, a' = some p → p.block ≠ w.heap.size from fun hx p hp => by
              have := (HHN.out.2 hx p hp).1
              simp only [World.size_alloc] at this
              omega)
            have HHQ := Lib.hid (HHN.out.1.below (by rw [hg6e]; exact HW3.out.trans (HBQ3.out.mono (by omega))))
            clear hio hlt hk
            have q40 := fun o => cell_of_heap Z4.out o
            have f40 := fun o => froz_of_heap Z4.out o
            have q8 := fun o => cell_of_heap Z8.out o
            have dk : decide ((NE : Int) < (NE : Int)) = false := by simp
            go_wp2_with fail
            have z4 := heap12_at Z4.out (.slice a n c) (.int .i64 (P0 : Nat)) (.int .i64 (P8 : Nat)) (.int .i64 (P12 : Nat)) (.int .i64 (S : Nat)) (.int .i64 (NE : Nat)) (.int .i64 1) (.slice A4 (n - P4) (c - P4)) (.slice a' lenR c') (.slice (lA 0) (lN 0) (lC 0)) (.slice (lA 1) (lN 1) (lC 1)) (.slice (lA 2) (lN 2) (lC 2))
            have q4 := fun o => cell_of_heap z4 o
            refine bodyPost_ret (v := .tuple #[.agg #[.slice a n c, .int .i64 (P0 : Nat), .int .i64 (P8 : Nat), .int .i64 (P12 : Nat), .int .i64 (S : Nat), .int .i64 (NE : Nat), .int .i64 1, .slice A4 (n - P4) (c - P4), .slice a' lenR c', .slice (lA 0) (lN 0) (lC 0), .slice (lA 1) (lN 1) (lC 1), .slice (lA 2) (lN 2) (lC 2)], .bool true]) (by simp [results, Try.results12, go_sem, q4]) rfl ?_
            exact HTOP.out _ _ a' c' HIO.out rfl (has12 HHQ.out HNB.out _ _ _ _ _ _ _ _ _ _ _ _) (below12 HBQ.out (Nat.le_refl _) _ _ _ _ _ _ _ _ _ _ _ _)
end Go.Proofs.Ythehcbbdkiomnaa
end
