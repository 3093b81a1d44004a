
/- A table and the pairs that it tells. Conditions: glyphs below 65535, numbers of two bytes. What the range over a table's glyphs keeps: pairs in a row of the call's own. Conditions: as the lemmas say. The walk of WholeLookups. Conditions: as many bytes as the slice says. -/
import Derived.Test.YthepejljgolcoaaLFormsLaw
import Derived.Test.YthepejljgolcoaaLAllLaw
namespace Go.Proofs.Ythepejljgolcoaa
open Go.RowKit Go.Lib

def prP (x : Int × Int) : Nat × Nat := (x.1.toNat, x.2.toNat)
theorem pr_ris {ps : List PartL} {ns : List Nat} (hf : FitL ps ns) (h65 : ∀ x ∈ allL ns ps, x.1 ≤ 65534 ∧ x.2 ≤ 65535) : Ris ((allL ns ps).map prP) := by
  refine ⟨?_, fun z hz => ?_⟩
  · rw [List.pairwise_map]
    refine (allL_rises hf.rising).imp_of_mem ?_
    intro x y hx hy hlt
    have := (mem_allL hf hx).2.2.1
    show x.1.toNat < y.1.toNat
    omega
  · obtain ⟨x, hx, rfl⟩ := List.mem_map.1 hz
    have := h65 x hx
    exact ⟨by show x.1.toNat ≤ 65534; omega, by show x.2.toNat ≤ 65535; omega⟩
theorem pr_get {ps : List PartL} {ns : List Nat} (hf : FitL ps ns) (h65 : ∀ x ∈ allL ns ps, x.1 ≤ 65534 ∧ x.2 ≤ 65535) (id : Int) : getP ((allL ns ps).map prP) id = getL ps ns id := by
  have hR := pr_ris hf h65
  cases hb : (getL ps ns id).2 with
  | true =>
    obtain ⟨x, hx, rfl⟩ := allL_mem hf hb
    obtain ⟨h1, h2, h3, _⟩ := mem_allL hf hx
    obtain ⟨i, hi, he⟩ := List.getElem_of_mem hx
    have hz : ((allL ns ps).map prP)[i]? = some (prP x) := by rw [List.getElem?_map, List.getElem?_eq_getElem hi, he]; rfl
    have := getP_at hR hz
    rw [show ((prP x).1 : Int) = x.1 by show ((x.1.toNat : Nat) : Int) = x.1; omega] at this
    rw [this, h1]
    rfl
  | false =>
    have h0 : getL ps ns id = (0, false) := by
      cases hp : ps.find? (inP id) with
      | none => unfold getL; rw [hp]
      | some p => unfold getL at hb; rw [hp] at hb; cases hb
    rw [h0]
    unfold getP
    have : ((allL ns ps).map prP).find? (fun z => decide ((z.1 : Int) = id)) = none := List.find?_eq_none.2 fun z hz => by
      obtain ⟨x, hx, rfl⟩ := List.mem_map.1 hz
      obtain ⟨h1, _, h3, _⟩ := mem_allL hf hx
      simp only [decide_eq_true_eq]
      intro he
      rw [show ((prP x).1 : Int) = x.1 by show ((x.1.toNat : Nat) : Int) = x.1; omega] at he
      rw [he, h0] at h1
      have := congrArg Prod.snd h1
      cases this
    rw [this]
theorem flat_one {α β : Type} (f : α → β) (l : List α) : l.flatMap (fun x => [f x]) = l.map f := by induction l <;> simp_all
theorem tabS_all (st : Nat) (R : List (Nat × Nat)) : allL (tabS st R).2 (tabS st R).1 = R.map fun z => ((z.1 : Int), (z.2 : Int)) := by
  have h1 : allL (tabS st R).2 (tabS st R).1 = (List.range R.length).map fun i => (((R.getD i (0, 0)).1 : Int), (((R.map Prod.snd).getD i 0 : Nat) : Int)) := by
    rw [← flat_one]
    simp only [allL, tabS, List.flatMap_map, glyphsP, Nat.add_sub_cancel_left, List.range_one, List.map_cons, List.map_nil, Nat.mul_zero, Nat.add_zero]
    simp
  rw [h1]
  apply List.ext_getElem
  · simp
  · intro i hi hj
    simp only [List.length_map, List.length_range] at hi
    simp [List.getD_eq_getElem?_getD, hi]
theorem pr_back {ps : List PartL} {ns : List Nat} (hf : FitL ps ns) (st : Nat) : allL (tabS st ((allL ns ps).map prP)).2 (tabS st ((allL ns ps).map prP)).1 = allL ns ps := by
  rw [tabS_all, List.map_map]
  apply List.ext_getElem
  · simp
  · intro i hi hj
    obtain ⟨_, h2, h3, _⟩ := mem_allL hf (List.getElem_mem hj)
    simp only [List.getElem_map, Function.comp]
    show (((allL ns ps)[i].1.toNat : Int), ((allL ns ps)[i].2.toNat : Int)) = _
    rw [h2, Int.toNat_of_nonneg h3]

open Go.RowKit Go.Lib Go.Shelf

/-- The eight bytes that the law begins with. -/
def bytes5 : List UInt8 := [0, 8, 0, 5, 0, 1, 0, 7]
theorem lk5 : LkOk bytes5 10 2 (rowsT 5 1 6 2) := by
  refine ⟨.eight (by decide) (by decide) (by decide), ?_⟩
  exact (ok_rowsT _ _ _ _ _ (by decide)).2 (by decide)
theorem tab5 : (tabR bytes5 (rowsT 5 1 6 2)).1 = [⟨5, 5, 0, 1⟩] ∧ (tabR bytes5 (rowsT 5 1 6 2)).2 = [7] := by
  obtain ⟨h1, h2⟩ := tab_rowsT bytes5 5 1 6 2
  rw [h1, h2]
  exact ⟨rfl, by decide⟩
theorem lread5 (a : Option Addr) (w : World) (h : Has w a [.int .u8 0, .int .u8 8, .int .u8 0, .int .u8 5, .int .u8 0, .int .u8 1, .int .u8 0, .int .u8 7]) :
    Calls Try.prog 10 #[.slice a 8 8, .int .i64 10, .int .i64 2] w fun e w' => ∃ g, e = .returned (.tuple #[.pointer (some ⟨g, 0, none⟩), .int .i64 0]) ∧ TabIs w.heap.size g 8 [⟨5, 5, 0, 1⟩] [7] w' ∧ FitL [⟨5, 5, 0, 1⟩] [7] ∧ Below w.heap.size w w' := by
  refine (lread_some a 8 8 bytes5 10 2 _ _ rfl rfl _ w h rfl (by decide) (by decide) (by decide) (by decide) (by decide) lk5).mono ?_
  have hf := lk5.fit (by decide) (by decide)
  rintro e w' ⟨g, he, ht, hb⟩
  obtain ⟨h1, h2⟩ := tab5
  rw [h1, h2] at ht hf
  exact ⟨g, he, ht, hf, hb⟩
/-- A table's parts end below 65536. -/
theorem LkRows.last {bs : List UInt8} {glyphs size : Nat} {rs : List RP} (h : LkRows bs glyphs size rs) (hg : glyphs ≤ 65535) : ∀ r ∈ rs, r.last ≤ 65535 := by
  have ht : ∀ f m a s, f + m ≤ 65536 → ∀ r ∈ rowsT f m a s, r.last ≤ 65535 := fun f m a s hf r hr => by
    unfold rowsT at hr
    split at hr
    · cases hr
    · simp at hr; subst hr; show f + m - 1 ≤ 65535; omega
  cases h with
  | all => intro r hr; simp at hr; subst hr; show glyphs - 1 ≤ 65535; omega
  | two => intro r hr; simp only [rows2, List.mem_map] at hr; obtain ⟨i, _, rfl⟩ := hr; exact num2_lt _ _
  | four => intro r hr; simp only [rows4, List.mem_map] at hr; obtain ⟨i, _, rfl⟩ := hr; exact num2_lt _ _
  | six => intro r hr; simp only [rows6, List.mem_map] at hr; obtain ⟨i, _, rfl⟩ := hr; exact num2_lt _ _
  | eight _ _ h1 => exact ht _ _ _ _ h1
  | ten _ _ _ h1 => exact ht _ _ _ _ h1
theorem tabR_last {bs : List UInt8} {rs : List RP} (h : ∀ r ∈ rs, r.last ≤ 65535) : ∀ p ∈ (tabR bs rs).1, p.last ≤ 65535 := by
  suffices hs : ∀ (rs : List RP) (s : List PartL × List Nat), (∀ r ∈ rs, r.last ≤ 65535) → (∀ p ∈ s.1, p.last ≤ 65535) → ∀ p ∈ (rs.foldl (stepR bs) s).1, p.last ≤ 65535 from hs rs ([], []) h (fun p hp => by cases hp)
  intro rs
  induction rs with
  | nil => intro s _ h; exact h
  | cons r rs ih =>
    intro s h1 h2
    refine ih _ (fun x hx => h1 x (by simp [hx])) fun p hp => ?_
    rcases List.mem_append.1 hp with hp | hp
    · exact h2 p hp
    · simp at hp; subst hp; exact h1 r (by simp)
theorem allL_last {ps : List PartL} {ns : List Nat} (h : ∀ p ∈ ps, p.last ≤ 65535) (hr : Rising ps) {x : Int × Int} (hx : x ∈ allL ns ps) : 0 ≤ x.1 ∧ x.1 ≤ 65535 ∧ 0 ≤ x.2 := by
  unfold allL at hx
  obtain ⟨p, hp, hx⟩ := List.mem_flatMap.1 hx
  obtain ⟨i, hi, rfl⟩ := mem_glyphsP.1 hx
  have h1 := hr.2 p hp
  have h2 := h p hp
  refine ⟨by show 0 ≤ (p.first : Int) + (i : Int); omega, by show (p.first : Int) + (i : Int) ≤ 65535; omega, by show (0 : Int) ≤ ((_ : Nat) : Int); omega⟩
/-- A glyph and its number, cut to sixteen bits. -/
def prC (x : Int × Int) : Nat × Nat := (x.1.toNat, x.2.toNat % 65536)
theorem prC_ris {ps : List PartL} {ns : List Nat} (hf : FitL ps ns) (h65 : ∀ x ∈ allL ns ps, x.1 ≤ 65534) : Ris ((allL ns ps).map prC) := by
  refine ⟨?_, fun z hz => ?_⟩
  · rw [List.pairwise_map]
    refine (allL_rises hf.rising).imp_of_mem ?_
    intro x y hx hy hlt
    have := (mem_allL hf hx).2.2.1
    show x.1.toNat < y.1.toNat
    omega
  · obtain ⟨x, hx, rfl⟩ := List.mem_map.1 hz
    have := h65 x hx
    exact ⟨by show x.1.toNat ≤ 65534; omega, by show x.2.toNat % 65536 ≤ 65535; omega⟩
theorem most_le {l : List (Int × Int)} : (∀ x ∈ l, x.2 ≤ mostL l) := by
  suffices hs : ∀ (l : List (Int × Int)) (m : Int), m ≤ l.foldl (fun m x => max m x.2) m ∧ ∀ x ∈ l, x.2 ≤ l.foldl (fun m x => max m x.2) m from (hs l (-1)).2
  intro l
  induction l with
  | nil => intro m; exact ⟨Int.le_refl _, fun x hx => by cases hx⟩
  | cons y l ih =>
    intro m
    obtain ⟨h1, h2⟩ := ih (max m y.2)
    refine ⟨by simp only [List.foldl_cons]; omega, fun x hx => ?_⟩
    simp only [List.foldl_cons]
    rcases List.mem_cons.1 hx with rfl | hx
    · omega
    · exact h2 x hx
theorem prC_prP {ps : List PartL} {ns : List Nat} (h : mostL (allL ns ps) ≤ 65535) : (allL ns ps).map prC = (allL ns ps).map prP := by
  refine List.map_congr_left fun x hx => ?_
  have := most_le x hx
  show (x.1.toNat, x.2.toNat % 65536) = (x.1.toNat, x.2.toNat)
  rw [Nat.mod_eq_of_lt (by omega)]
theorem most_ge (l : List (Int × Int)) : -1 ≤ mostL l := by
  suffices hs : ∀ (l : List (Int × Int)) (m : Int), m ≤ l.foldl (fun m x => max m x.2) m from hs l (-1)
  intro l
  induction l with
  | nil => intro m; exact Int.le_refl _
  | cons y l ih => intro m; have := ih (max m y.2); simp only [List.foldl_cons]; omega

/-- 'append' to a row of the call's own turns cells of its type alone. -/
theorem KeepC.app {B base : Nat} {own : Nat → Nat → Prop} {w w' : World} {e size n : Nat} {v : Value} {xs : List Value} (h : w.ownsRow base e size v n xs) (hB : B ≤ base) (hb : Below base w w') (hg : w.grownBy w' v.ownBlock) (ho : ∀ k, own k e) : KeepC B own w w' := by
  refine ⟨hb.mono hB, hg.size, fun k cs t fz hk hn => hg.block k (Array.getElem?_eq_some_iff.1 hk).1 ?_⟩
  intro e'
  rcases h.2 with ⟨rfl, _⟩ | ⟨g, cap, cur, rfl, _, hh, _⟩
  · simp [Value.ownBlock] at e'
  · obtain rfl : g = k := by simpa [Value.ownBlock] using e'.symm
    rw [hh] at hk
    cases hk
    exact hn (ho g)
theorem keepsO_app {base : Nat} {w w' : World} {e size n : Nat} {v : Value} {xs : List Value} (h : w.ownsRow base e size v n xs) (hg : w.grownBy w' v.ownBlock) : KeepsOthers w w' := by
  refine KeepsOthers.of_grownBy hg fun j o ej hj => ?_
  rcases h.2 with ⟨rfl, _⟩ | ⟨g, cap, cur, rfl, _, hh, _⟩
  · simp [Value.ownBlock] at ej
  · obtain rfl : g = j := by simpa [Value.ownBlock] using ej
    rw [hh] at hj; cases hj; rfl
/-- What the loop's own cells hold when some glyphs have come. -/
structure WlI (B0 B g fmt : Nat) (ps : List PartL) (ns : List Nat) (g4 g9 : Nat) (pre : List (Int × Int)) (W : World) : Prop where
  out : W.heap[g4]? = some (.cells #[.bool false] 4 (0, 0))
  row : ∃ (a : Option Addr) (c : Nat), W.heap[g9]? = some (.cells #[.slice a pre.length c] 28 (0, 0)) ∧ W.ownsRow B0 34 2 (.slice a pre.length c) pre.length (pairsV (pre.map prC)) ∧ pre.length ≤ c ∧ c ≤ maxLen
  tab : TabIs B g fmt ps ns W
  le : pre.length ≤ 201
  small : ∀ x ∈ pre, x.1 ≤ 65534
theorem WlI.grown {B0 B g fmt : Nat} {ps : List PartL} {ns : List Nat} {g4 g9 : Nat} {pre : List (Int × Int)} {A C : World} {row : Option Nat} (h : WlI B0 B g fmt ps ns g4 g9 pre A) (hg : A.grownBy C row) (hr : ∀ r, row = some r → ∃ o : Obj, A.heap[r]? = some o ∧ o.isCells = false) : WlI B0 B g fmt ps ns g4 g9 pre C := by
  obtain ⟨a, c, h1, h2, h3, h4⟩ := h.row
  exact ⟨heap_kept h.out hg hr, ⟨a, c, heap_kept h1 hg hr, owns_kept h2 hg hr, h3, h4⟩, h.tab.grown hg hr, h.le, h.small⟩

attribute [local go_sem] Oper.semAt_some

set_option maxRecDepth 100000 in
set_option maxHeartbeats 6400000 in
theorem wholeLookups_some (a : Option Addr) (n c : Nat) (bs : List UInt8) (id : Int) (rs : List RP) (w : World) (h : Has w a (bytesV bs)) (hl : bs.length = n) (hn : n ≤ c) (hc : c ≤ maxLen) (hid : -9223372036854775808 ≤ id ∧ id ≤ 9223372036854775807) (hbig : n ≤ 100) (hok : LkOk bs 40 2 rs) :
    Calls Try.prog 3 #[.slice a n c, .int .i64 id] w fun e w' => e = .returned (.bool true) ∧ Below w.heap.size w w' := by
  have HRD := Lib.hid (fun W hW => lread_some a n c bs 40 2 40 2 rfl rfl rs W (h.below hW) hl hn hc (by decide) (by decide) (by decide) hok)
  have HF := Lib.hid (hok.fit (by decide) (by decide))
  have HLT := Lib.hid (tabR_last (bs := bs) (hok.rows.last (by decide)))
  have d1 : decide (100 < (n : Int)) = false := by simp; omega
  clear h hl hok
  refine (callsIn_wide (n := 4)).1 ?_
  refine callsIn_of_wp_marks Try.func3 rfl trivial ?_ rfl
  simp only [Try.ntmps3, List.size_toArray, List.length_cons, List.length_nil, Nat.reduceAdd, Nat.reduceSub, Array.replicate_succ, Array.replicate_zero, List.push_toArray, List.append_toArray, List.nil_append, List.cons_append]
  have hB : Has ((w.alloc (Obj.cells #[.bool false] 4)).alloc (Obj.cells #[.int .u8 0, .int .u8 8, .int .u8 0, .int .u8 5, .int .u8 0, .int .u8 1, .int .u8 0, .int .u8 7] 5)) (some ⟨w.heap.size + 1, 0, none⟩) [.int .u8 0, .int .u8 8, .int .u8 0, .int .u8 5, .int .u8 0, .int .u8 1, .int .u8 0, .int .u8 7] := by
    have := has_alloc (w.alloc (Obj.cells #[.bool false] 4)) #[.int .u8 0, .int .u8 8, .int .u8 0, .int .u8 5, .int .u8 0, .int .u8 1, .int .u8 0, .int .u8 7] 5
    rwa [World.size_alloc] at this
  have HLR := Lib.hid (lread5 _ _ hB)
  clear hB
  gi_wp2
  refine ⟨trivial, (callsIn_wide.2 HLR.out).mono ?_⟩
  rintro e w1 ⟨g5, rfl, ht1, hf1, hb1⟩
  have HM1 := Lib.hid (most_any _ g5 8 _ _ w1 ht1 hf1)
  rw [show mostL (allL [7] [⟨5, 5, 0, 1⟩]) = 7 by decide] at HM1
  have c4 : w1.heap[w.heap.size]? = some (.cells #[.bool false] 4 (0, 0)) := (hb1.block _ (by simp; omega)).trans (by rw [heap_push, if_neg (by simp), heap_push, if_pos rfl])
  have HB1 := Lib.hid (bthen (balloc (balloc (brefl w) _) _) hb1)
  have hz1 := hb1.size
  simp only [World.size_alloc] at hz1
  clear hb1 ht1 hf1
  gi_wp2
  refine ⟨trivial, (callsIn_wide.2 HM1.out).mono ?_⟩
  rintro e w2 ⟨rfl, hb2⟩
  have C4 := Lib.hid ((hb2.block _ (by omega)).trans c4)
  have HB2 := Lib.hid (bthen HB1.out hb2)
  have hz2 : w.heap.size < w2.heap.size := by have := hb2.size; omega
  clear hb2 c4 HM1
  gi_wp2
  refine ⟨trivial, (callsIn_wide.2 (HRD.out _ HB2.out)).mono ?_⟩
  rintro e w3 ⟨g, rfl, ht3, hb3⟩
  have HT3 := Lib.hid ht3
  have C4' := Lib.hid ((hb3.block _ (by omega)).trans C4.out)
  have HB3 := Lib.hid (bthen HB2.out hb3)
  have hz3 : w.heap.size < w3.heap.size := by have := hb3.size; omega
  clear ht3 hb3 C4
  generalize (tabR bs rs).1 = ps at *
  generalize (tabR bs rs).2 = ns at *
  generalize num bs 0 2 = fmt at *
  gi_wp2
  refine ⟨trivial, (callsIn_wide.2 (all_any g _)).mono ?_⟩
  rintro e w4 ⟨rfl, rfl⟩
  obtain ⟨W3, hW3⟩ : ∃ W3, W3 = (w3.alloc (Obj.cells #[.slice none 0 0] 28)).alloc (Obj.cells #[.pointer (some ⟨g, 0, none⟩)] 23) := ⟨_, rfl⟩
  have hb4 : Below w3.heap.size w3 W3 := by rw [hW3]; exact balloc (balloc (brefl _) _) _
  have hz4 : W3.heap.size = w3.heap.size + 2 := by rw [hW3]; simp
  have e9 : W3.heap[w3.heap.size]? = some (.cells #[.slice none 0 0] 28 (0, 0)) := by rw [hW3, heap_push, if_neg (by simp), heap_push, if_pos rfl]
  have eB : W3.heap[w3.heap.size + 1]? = some (.cells #[.pointer (some ⟨g, 0, none⟩)] 23 (0, 0)) := by rw [hW3, heap_push, if_pos (by simp)]
  have HI0 := Lib.hid (show WlI w.heap.size w2.heap.size g fmt ps ns w.heap.size w3.heap.size [] W3 from ⟨(hb4.block _ (by omega)).trans C4'.out, ⟨none, 0, e9, ⟨rfl, .inl ⟨rfl, rfl⟩⟩, Nat.le_refl _, Nat.zero_le _⟩, HT3.out.below hb4, Nat.zero_le _, fun x hx => by cases hx⟩)
  have HB4 := Lib.hid (bthen HB3.out hb4)
  gi_wp2
  rw [← hW3]
  have hwW : w.heap.size ≤ W3.heap.size := HB4.out.size
  refine wpIn_rangeFunc_ownF (α := Gl ns ps) rfl (by decide) (gf := 33) (lb := #[.pointer (some ⟨w3.heap.size + 1, 0, none⟩)]) rfl trivial (enters_of Try.func33 (by kernel_rfl) rfl)
    (all_stopsA w2.heap.size w.heap.size g fmt (w3.heap.size + 1) (fun k t => t = 28 ∨ t = 34) ps ns W3 HI0.out.tab HF.out eB (fun k hx => by rcases hx with hx | hx <;> exact absurd hx (by decide)) (fun k hx => by rcases hx with hx | hx <;> exact absurd hx (by decide)) (fun hx => by rcases hx with hx | hx <;> exact absurd hx (by decide)) (fun hx => by rcases hx with hx | hx <;> exact absurd hx (by decide)))
    (fun h k => KeepC.trans h k) (fun W l o o' hl h hc hw => KeepC.put hwW W l o o' hl h hc hw) (Below.refl _ _) (fun _ => rfl)
    (fun pre W => WlI w.heap.size w2.heap.size g fmt ps ns w.heap.size w3.heap.size (pre.map Subtype.val) W ∧ Below w.heap.size w W)
    (fun c pre W => (c = .ret ∧ W.heap[w.heap.size]? = some (.cells #[.bool true] 4 (0, 0))) ∧ Below w.heap.size w W)
    (OwnFrom.and (show OwnFrom _ (fun (pre : List (Gl ns ps)) (W : World) => WlI w.heap.size w2.heap.size g fmt ps ns w.heap.size w3.heap.size (pre.map Subtype.val) W) from fun s A C row hs hg hr => hs.grown hg (fun r e => (hr r e).2)) (ownFrom_below (Nat.le_refl _) hwW))
    (fun c => OwnFrom.and (show OwnFrom _ (fun (pre : List (Gl ns ps)) (W : World) => c = .ret ∧ W.heap[w.heap.size]? = some (.cells #[.bool true] 4 (0, 0))) from fun s A C row hs hg hr => ⟨hs.1, heap_kept hs.2 hg (fun r e => (hr r e).2)⟩) (ownFrom_below (Nat.le_refl _) hwW))
    ⟨HI0.out, HB4.out⟩ ?a1 ?assign ?body ?done ?stop
  case assign =>
    intro l x W K hK
    gi_wp2
    exact hK
  case body =>
    rintro l pre ⟨⟨gid, v⟩, hx⟩ W ⟨hI, hB⟩ _
    obtain ⟨i0, i1, i2⟩ := allL_last HLT.out HF.out.rising hx
    simp only at i0 i1 i2
    have HPX := Lib.hid (show (pre ++ [(⟨(gid, v), hx⟩ : Gl ns ps)]).map Subtype.val = pre.map Subtype.val ++ [(gid, v)] from by simp)
    generalize hxx : (pre ++ [(⟨(gid, v), hx⟩ : Gl ns ps)]) = preX at *
    generalize hpp : pre.map Subtype.val = preL at *
    clear hxx hpp
    obtain ⟨G, rfl⟩ : ∃ G : Nat, gid = G := ⟨gid.toNat, by omega⟩
    obtain ⟨X, rfl⟩ : ∃ X : Nat, v = X := ⟨v.toNat, by omega⟩
    obtain ⟨aR, cR, h9, ho, hc1, hc2⟩ := hI.row
    have q4 := cell_of_heap hI.out 0
    have f4 := fun o => froz_of_heap hI.out o
    have q9 := cell_of_heap h9 0
    have f9 := fun o => froz_of_heap h9 o
    simp only [List.getElem?_toArray, List.getElem?_cons_zero] at q4 q9
    have hle := hI.le
    have HO := Lib.hid ho
    have HI := Lib.hid hI
    have HB := Lib.hid hB
    have H9 := Lib.hid h9
    clear ho hI hB h9
    generalize hL : preL.length = L at *
    have lw9 : w3.heap.size < W.heap.size := cell_lt q9
    by_cases hG : (G : Int) = 65535
    · have eg : ((G : Int) == 65535) = true := by rw [hG]; rfl
      clear hG
      gi_wp2
      exact ⟨KeepsOthers.setCell _ _ _, ⟨rfl, set_heap_at _ HI.out.out⟩, HB.out.setCell (p := ⟨w.heap.size, 0, none⟩) (Nat.le_refl _) _⟩
    have eg : ((G : Int) == 65535) = false := by rw [beq_eq_false_iff_ne]; exact hG
    by_cases hL2 : 200 < L
    · have eL : decide ((200 : Int) < (L : Int)) = true := by simp; omega
      clear hG
      gi_wp2
      exact ⟨KeepsOthers.setCell _ _ _, ⟨rfl, set_heap_at _ HI.out.out⟩, HB.out.setCell (p := ⟨w.heap.size, 0, none⟩) (Nat.le_refl _) _⟩
    have eL : decide ((200 : Int) < (L : Int)) = false := by simp; omega
    obtain ⟨it, hit, hz0, hz1, hz2⟩ := info_parts pair_info
    have hwx : IntKind.u16.wrap (X : Int) = ((X % 65536 : Nat) : Int) := by rw [IntKind.wrap_u16]; omega
    have hgx : IntKind.u16.wrap (G : Int) = (G : Int) := by rw [IntKind.wrap_u16]; omega
    have hBW : w.heap.size ≤ W.heap.size := HB.out.size
    have c63 : L + 1 ≤ maxLen := by unfold maxLen; omega
    have c64 : (L + 1) * 4 ≤ 140737488355328 := by omega
    have cb : w.heap.size ≤ (W.alloc (Obj.cells #[.int .u16 (G : Nat), .int .u16 ((X % 65536 : Nat) : Int)] 34)).heap.size := by rw [World.size_alloc]; omega
    have cown := owns_below HO.out (balloc (brefl W) (Obj.cells #[.int .u16 (G : Nat), .int .u16 ((X % 65536 : Nat) : Int)] 34)) (Nat.le_refl _)
    have ccell : ∀ (j : Nat) (u : Value), [Value.int .u16 (G : Nat), .int .u16 ((X % 65536 : Nat) : Int)][j]? = some u → (W.alloc (Obj.cells #[.int .u16 (G : Nat), .int .u16 ((X % 65536 : Nat) : Int)] 34)).cell? ((⟨W.heap.size, 0, none⟩ : Addr).add j) = some u := fun j u hu => by
      obtain ⟨q, hq, hcq⟩ := has_alloc W #[.int .u16 (G : Nat), .int .u16 ((X % 65536 : Nat) : Int)] 34 j u hu
      cases hq; exact hcq
    have cone : ∀ u ∈ [Value.int .u16 (G : Nat), .int .u16 ((X % 65536 : Nat) : Int)], u.oneCell' = true := fun u hu => by simp at hu; rcases hu with rfl | rfl <;> rfl
    have C63 := Lib.hid c63
    have C64 := Lib.hid c64
    have CB := Lib.hid cb
    have COWN := Lib.hid cown
    have CCELL := Lib.hid ccell
    have CONE := Lib.hid cone
    clear c63 c64 cb cown ccell cone
    gi_wp2_with (gi_at_builtin; refine wpListIn_append_own _ rfl _ _ 28 rfl w.heap.size 34 it (.agg #[.int .u16 0, .int .u16 0]) 2 4 Try.underlying28 hit hz0 hz1 hz2 rfl (by decide) _ L _ rfl COWN.out ⟨W.heap.size, 0, none⟩ 1 1 [.int .u16 (G : Nat), .int .u16 ((X % 65536 : Nat) : Int)] rfl rfl CCELL.out CONE.out C63.out C64.out CB.out ?_; intro v' w5 hown' hgrow _; obtain ⟨a1, c1, rfl, k1, k2, k3⟩ := owns_slice hown'; have HO5 := Lib.hid hown'; have HG5 := Lib.hid hgrow; have hk5 := KeptE.grown COWN.out hgrow; have HK5 := Lib.hid hk5; have HBA := Lib.hid (((Below.refl w.heap.size (W.alloc (Obj.cells #[.int .u16 (G : Nat), .int .u16 ((X % 65536 : Nat) : Int)] 34))).grown hgrow CB.out fun k hk => (COWN.out.lt k hk).1)); have h95 := (hk5.2 w3.heap.size _ _ _ ((heap_push W _ _).trans ((if_neg (by omega)).trans H9.out)) (by decide)).trans ((heap_push W _ _).trans ((if_neg (by omega)).trans H9.out)); have H95 := Lib.hid h95; have q95 := cell_of_heap h95 0; have f95 := fun o => froz_of_heap h95 o; simp only [List.getElem?_toArray, List.getElem?_cons_zero] at q95; have hl95 := cell_lt q95; simp only at hl95; clear hown' hgrow hk5 h95)
    have hone : W.ownsRow w.heap.size 34 2 (.slice aR L cR) L (pairsV (preL.map prC)) := HO.out
    have hownA := owns_below hone (balloc (brefl W) (Obj.cells #[.int .u16 (G : Nat), .int .u16 ((X % 65536 : Nat) : Int)] 34)) (Nat.le_refl _)
    have hBall : Below w.heap.size W w5 := ((balloc (brefl W) (Obj.cells #[.int .u16 (G : Nat), .int .u16 ((X % 65536 : Nat) : Int)] 34)).mono hBW).trans HBA.out
    have e1 : pairsV ((preL ++ [((G : Int), (X : Int))]).map prC) = pairsV (preL.map prC) ++ [.int .u16 (G : Nat), .int .u16 ((X % 65536 : Nat) : Int)] := by
      rw [List.map_append, List.map_cons, List.map_nil, ← pairsV_snoc]; rfl
    refine ⟨KeepsOthers.trans (keepsO (balloc (brefl W) _)) (KeepsOthers.trans (keepsO_app hownA HG5.out) (KeepsOthers.setCell _ _ _)), ?_, ?_, ?_⟩
    · exact ((KeepC.of (balloc (brefl W) _) hBW).trans (KeepC.app hownA (Nat.le_refl _) HBA.out HG5.out fun k => .inr rfl)).set (by omega) H95.out (.inl rfl) _
    · have hk : KeptE 34 W w5 := (KeptE.below (balloc (brefl W) _)).trans HK5.out
      have h4 := (hk.2 _ _ _ _ HI.out.out (by decide)).trans HI.out.out
      rw [HPX.out]
      refine ⟨(set_heap_other _ (by omega)).trans h4, ⟨a1, c1, ?_, ?_, ?_, ?_⟩, ?_, ?_, ?_⟩
      · rw [set_heap_at _ H95.out, List.length_append, hL]; rfl
      · rw [e1, List.length_append, hL]
        exact set_owns _ HO5.out (own_neE HO5.out H95.out (by decide))
      · rw [List.length_append, hL]; exact k1
      · exact k2
      · have ht : TabIs w2.heap.size g fmt ps ns w5 := by
          obtain ⟨ap, cp, an, cn, t0, t1, t2⟩ := HI.out.tab.is
          exact ⟨ap, cp, an, cn, (hk.2 _ _ _ _ t0 (by decide)).trans t0, hk.owns t1 (by decide), hk.owns t2 (by decide)⟩
        exact ht.setOther H95.out (by decide) (by decide) (by decide) _
      · rw [List.length_append, hL]; show L + 1 ≤ 201; omega
      · intro x hx
        rcases List.mem_append.1 hx with hx | hx
        · exact HI.out.small x hx
        · simp at hx; subst hx; show (G : Int) ≤ 65534; omega
    · exact (HB.out.trans hBall).setCell (p := ⟨w3.heap.size, 0, none⟩) (by show w.heap.size ≤ w3.heap.size; omega) _
  case done =>
    rintro D ys W hD hys ⟨hI, hB⟩ hK
    rw [hys] at hI
    obtain ⟨aR, cR, h9, ho, hc1, hc2⟩ := hI.row
    have h65 := hI.small
    have h201 := hI.le
    have hR := prC_ris HF.out h65
    obtain ⟨R, hRE⟩ : ∃ R, R = (allL ns ps).map prC := ⟨_, rfl⟩
    have hRl : R.length = (allL ns ps).length := by rw [hRE, List.length_map]
    rw [← hRE] at ho hR
    rw [← hRl] at h9 ho hc1 h201
    obtain ⟨L, hL⟩ : ∃ L, L = R.length := ⟨_, rfl⟩
    rw [← hL] at h9 ho hc1 h201
    have HRE := Lib.hid hRE
    have HR := Lib.hid hR
    have HHR := Lib.hid (has_of_owns ho)
    have HSP := Lib.hid (owns_sp ho)
    have HT := Lib.hid hI.tab
    have H4 := Lib.hid hI.out
    have H9 := Lib.hid h9
    have HL := Lib.hid hL
    have HB := Lib.hid hB
    have HK := Lib.hid hK
    have HPP := Lib.hid (show mostL (allL ns ps) ≤ 65535 → R = (allL ns ps).map prP from fun h => hRE.trans (prC_prP h))
    have HBK := Lib.hid (fun st => pr_back HF.out (ps := ps) (ns := ns) st)
    have HGP := Lib.hid (fun (h : mostL (allL ns ps) ≤ 65535) => pr_get HF.out (ps := ps) (ns := ns) fun x hx => ⟨h65 x hx, by have := most_le x hx; omega⟩)
    have HMO := Lib.hid (fun V (hV : TabIs w2.heap.size g fmt ps ns V) => most_any w2.heap.size g fmt ps ns V hV HF.out)
    have q9 := cell_of_heap h9 0
    simp only [List.getElem?_toArray, List.getElem?_cons_zero] at q9
    have lw9 : w3.heap.size < W.heap.size := cell_lt q9
    clear hI h9 ho h65 hR hRE hRl hL hB hK hys
    obtain ⟨M, hM⟩ : ∃ M, M = mostL (allL ns ps) := ⟨_, rfl⟩
    rw [← hM] at HMO HPP HGP
    have HM := Lib.hid hM
    clear hM
    have HFM := Lib.hid (forms_any aR L cR R W HHR.out HL.out.symm hc1 hc2 (by omega) HR.out HSP.out)
    gi_wp2
    refine ⟨trivial, (callsIn_wide.2 HFM.out).mono ?_⟩
    rintro e w5 ⟨a1, a2, a3, a4, f1, f2, f3, f4, n4, rfl, x1, x2, x3, x4, m1, m2, m3, m4, m5, m6, m7, m8, hb5⟩
    have X1 := Lib.hid x1
    have X2 := Lib.hid x2
    have X3 := Lib.hid x3
    have X4 := Lib.hid x4
    have HB5 := Lib.hid hb5
    have c9 := (hb5.cell (p := ⟨w3.heap.size, 0, none⟩) lw9).trans q9
    have lw95 : w3.heap.size < w5.heap.size := cell_lt c9
    have HT5 := Lib.hid (HT.out.below hb5)
    clear x1 x2 x3 x4 hb5 HFM
    generalize hl1 : (two R).length = l1 at *
    generalize hl2 : (four R).length = l2 at *
    generalize hl3 : (six 2 R).length = l3 at *
    have L1 := Lib.hid hl1
    have L2 := Lib.hid hl2
    have L3 := Lib.hid hl3
    clear hl1 hl2 hl3
    have hx0 := idxF0 (.slice a1 l1 f1) (.slice a2 l2 f2) (.slice a3 l3 f3) (.slice a4 n4 f4)
    have hx1 := idxF1 (.slice a1 l1 f1) (.slice a2 l2 f2) (.slice a3 l3 f3) (.slice a4 n4 f4)
    have hx2 := idxF2 (.slice a1 l1 f1) (.slice a2 l2 f2) (.slice a3 l3 f3) (.slice a4 n4 f4)
    have hx3 := idxF3 (.slice a1 l1 f1) (.slice a2 l2 f2) (.slice a3 l3 f3) (.slice a4 n4 f4)
    gi_wp2
    gi_loopw [72] (fun i wr => (i = .int .i64 0 ∨ i = .int .i64 1 ∨ i = .int .i64 2 ∨ i = .int .i64 3 ∨ i = .int .i64 4) ∧ Below w5.heap.size w5 wr) (fun i _ => 4 - (intOf i).toNat)
    case atStart => exact ⟨.inl rfl, brefl _⟩
    case round =>
      obtain ⟨hi, hbr⟩ := hrel
      rename World => wq
      have HBQ := Lib.hid hbr
      have q9q := (hbr.cell (p := ⟨w3.heap.size, 0, none⟩) lw95).trans c9
      have HTQ := Lib.hid (HT5.out.below hbr)
      have lwq : w3.heap.size < wq.heap.size := cell_lt q9q
      have HMQ := Lib.hid (HMO.out wq HTQ.out)
      clear hbr
      rcases hi with rfl | rfl | rfl | rfl | rfl
      · by_cases hbm : 65535 < M
        · have dm : decide ((65535 : Int) < M) = true := by simp; omega
          gi_wp2
          refine ⟨trivial, (callsIn_wide.2 HMQ.out).mono ?_⟩
          rintro e w6 ⟨rfl, hb6⟩
          have HB6 := Lib.hid (HBQ.out.trans (hb6.mono HBQ.out.size))
          clear hb6
          gi_wp2
          go_roundw
          case rel => exact ⟨.inr (.inl (by go_num)), HB6.out⟩
          case measure => simp [intOf]
        have dm : decide ((65535 : Int) < M) = false := by simp; omega
        have hM6 : M ≤ 65535 := by omega
        have hR250 : R.length ≤ 250 := by rw [← HL.out]; omega
        have hRl : R.length ≤ 65535 := by omega
        have hok := two_ok R HR.out hRl 40
        have ht : tabR (two R) _ = tabS 0 R := (two_one R HR.out hRl).tab
        have hfit := hok.fit (by decide) (.inl rfl)
        have HD := Lib.hid (fun V (hV : Below w5.heap.size w5 V) => lread_some a1 l1 f1 (two R) 40 2 40 2 rfl rfl _ V (X1.out.below hV) L1.out m1 m2 (by decide) (by decide) (.inl rfl) hok)
        rw [ht] at hfit HD
        have HF2 := Lib.hid hfit
        have HG1 := Lib.hid (fun (x : Int) (hx : -9223372036854775808 ≤ x ∧ x ≤ 9223372036854775807) (V : World) (hV : Below w5.heap.size w5 V) => show Calls Try.prog 14 #[.pointer (some ⟨g, 0, none⟩), .int .i64 x] V fun e w' => e = .returned (.tuple #[.int .i64 ((getL ps ns x).1 : Nat), .bool (getL ps ns x).2]) ∧ Below V.heap.size V w' from get_fn _ g _ _ _ x V (HT5.out.below hV) HF.out hx)
        have HBS := Lib.hid (show mostL (allL (tabS 0 R).2 (tabS 0 R).1) = M from by rw [HPP.out hM6, HBK.out 0, HM.out])
        have HEQ := Lib.hid (fun x => show getL (tabS 0 R).1 (tabS 0 R).2 x = getL ps ns x from by rw [getL_tab HR.out x, HPP.out hM6]; exact HGP.out hM6 x)
        clear hok ht hfit hRl hR250
        gi_wp2
        refine ⟨trivial, (callsIn_wide.2 HMQ.out).mono ?_⟩
        rintro e w6 ⟨rfl, hb6⟩
        have HB6 := Lib.hid (HBQ.out.trans (hb6.mono HBQ.out.size))
        clear hb6 HMQ
        gi_wp2
        refine ⟨trivial, (callsIn_wide.2 (HD.out _ HB6.out)).mono ?_⟩
        rintro e w7 ⟨gu, rfl, ht7, hb7⟩
        have HT7 := Lib.hid ht7
        have HB7 := Lib.hid (HB6.out.trans (hb7.mono HB6.out.size))
        have HMU := Lib.hid (most_any _ gu _ _ _ w7 ht7 HF2.out)
        rw [HBS.out] at HMU
        have HG2 := Lib.hid (fun (x : Int) (hx : -9223372036854775808 ≤ x ∧ x ≤ 9223372036854775807) (V : World) (hV : Below w7.heap.size w7 V) => show Calls Try.prog 14 #[.pointer (some ⟨gu, 0, none⟩), .int .i64 x] V fun e w' => e = .returned (.tuple #[.int .i64 ((getL ps ns x).1 : Nat), .bool (getL ps ns x).2]) ∧ Below V.heap.size V w' from by
          have := get_fn _ gu _ _ _ x V (HT7.out.below hV) HF2.out hx
          rwa [HEQ.out x] at this)
        clear ht7 hb7 HD
        gi_wp2
        refine ⟨trivial, (callsIn_wide.2 HMU.out).mono ?_⟩
        rintro e w8 ⟨rfl, hb8⟩
        have HB8 := Lib.hid hb8
        have HM8 := Lib.hid (HMO.out w8 (HT5.out.below (HB7.out.trans (hb8.mono HB7.out.size))))
        clear hb8 HMU
        gi_wp2
        refine ⟨trivial, (callsIn_wide.2 HM8.out).mono ?_⟩
        rintro e w9 ⟨rfl, hb9⟩
        have HB9 := Lib.hid (HB8.out.trans (hb9.mono HB8.out.size))
        clear hb9 HM8
        gi_wp2
        gi_loopw [16] (fun i wr => ∃ z : Int, -1 ≤ z ∧ z ≤ 60 ∧ i = .int .i64 z ∧ Below w7.heap.size w7 wr) (fun i _ => (60 - intOf i).toNat)
        case atStart => exact ⟨-1, by decide, by decide, rfl, HB9.out⟩
        case round =>
          obtain ⟨z, hz1, hz2, rfl, hbu⟩ := hrel
          rename World => wu
          have HBU := Lib.hid hbu
          clear hbu
          by_cases hlt : z < 60
          · have HGZ := Lib.hid (HG1.out z (by omega) wu (HB7.out.trans (HBU.out.mono HB7.out.size)))
            have HGY := Lib.hid (HG2.out z (by omega))
            generalize ((getL ps ns z).1 : Int) = gv at *
            generalize (getL ps ns z).2 = gb at *
            gi_wp2
            refine ⟨trivial, (callsIn_wide.2 HGZ.out).mono ?_⟩
            rintro e wa ⟨rfl, hba⟩
            have HBA := Lib.hid (HBU.out.trans (hba.mono HBU.out.size))
            clear hba
            gi_wp2
            refine ⟨trivial, (callsIn_wide.2 (HGY.out wa HBA.out)).mono ?_⟩
            rintro e wb ⟨rfl, hbb⟩
            have HBB := Lib.hid (HBA.out.trans (hbb.mono HBA.out.size))
            clear hbb
            have hne : (gb != gb) = false := by cases gb <;> rfl
            gi_wp2
            go_roundw
            case rel => exact ⟨z + 1, by omega, by omega, by first | rfl | go_num, HBB.out⟩
            case measure => simp [intOf]; omega
          · have hge : ¬ z < 60 := hlt
            have HGZ := Lib.hid (HG1.out id hid wu (HB7.out.trans (HBU.out.mono HB7.out.size)))
            have HGY := Lib.hid (HG2.out id hid)
            generalize ((getL ps ns id).1 : Int) = gv at *
            generalize (getL ps ns id).2 = gb at *
            gi_wp2
            refine ⟨trivial, (callsIn_wide.2 HGZ.out).mono ?_⟩
            rintro e wa ⟨rfl, hba⟩
            have HBA := Lib.hid (HBU.out.trans (hba.mono HBU.out.size))
            clear hba
            gi_wp2
            refine ⟨trivial, (callsIn_wide.2 (HGY.out wa HBA.out)).mono ?_⟩
            rintro e wb ⟨rfl, hbb⟩
            have HBB := Lib.hid (HBA.out.trans (hbb.mono HBA.out.size))
            clear hbb
            have hne : (gb != gb) = false := by cases gb <;> rfl
            gi_wp2
            go_roundw
            case rel => exact ⟨.inr (.inl (by go_num)), HB7.out.trans (HBB.out.mono HB7.out.size)⟩
            case measure => simp [intOf]
      · by_cases hbm : 65535 < M
        · have dm : decide ((65535 : Int) < M) = true := by simp; omega
          gi_wp2
          refine ⟨trivial, (callsIn_wide.2 HMQ.out).mono ?_⟩
          rintro e w6 ⟨rfl, hb6⟩
          have HB6 := Lib.hid (HBQ.out.trans (hb6.mono HBQ.out.size))
          clear hb6
          gi_wp2
          go_roundw
          case rel => exact ⟨.inr (.inr (.inl (by go_num))), HB6.out⟩
          case measure => simp [intOf]
        have dm : decide ((65535 : Int) < M) = false := by simp; omega
        have hM6 : M ≤ 65535 := by omega
        have hR250 : R.length ≤ 250 := by rw [← HL.out]; omega
        have hRl : R.length ≤ 65535 := by omega
        have hok := four_ok R HR.out hR250 40
        have ht : tabR (four R) _ = tabS 1 R := (four_one R HR.out hR250).tab
        have hfit := hok.fit (by decide) (.inl rfl)
        have HD := Lib.hid (fun V (hV : Below w5.heap.size w5 V) => lread_some a2 l2 f2 (four R) 40 2 40 2 rfl rfl _ V (X2.out.below hV) L2.out m3 m4 (by decide) (by decide) (.inl rfl) hok)
        rw [ht] at hfit HD
        have HF2 := Lib.hid hfit
        have HG1 := Lib.hid (fun (x : Int) (hx : -9223372036854775808 ≤ x ∧ x ≤ 9223372036854775807) (V : World) (hV : Below w5.heap.size w5 V) => show Calls Try.prog 14 #[.pointer (some ⟨g, 0, none⟩), .int .i64 x] V fun e w' => e = .returned (.tuple #[.int .i64 ((getL ps ns x).1 : Nat), .bool (getL ps ns x).2]) ∧ Below V.heap.size V w' from get_fn _ g _ _ _ x V (HT5.out.below hV) HF.out hx)
        have HBS := Lib.hid (show mostL (allL (tabS 1 R).2 (tabS 1 R).1) = M from by rw [HPP.out hM6, HBK.out 1, HM.out])
        have HEQ := Lib.hid (fun x => show getL (tabS 1 R).1 (tabS 1 R).2 x = getL ps ns x from by rw [getL_tab HR.out x, HPP.out hM6]; exact HGP.out hM6 x)
        clear hok ht hfit hRl hR250
        gi_wp2
        refine ⟨trivial, (callsIn_wide.2 HMQ.out).mono ?_⟩
        rintro e w6 ⟨rfl, hb6⟩
        have HB6 := Lib.hid (HBQ.out.trans (hb6.mono HBQ.out.size))
        clear hb6 HMQ
        gi_wp2
        refine ⟨trivial, (callsIn_wide.2 (HD.out _ HB6.out)).mono ?_⟩
        rintro e w7 ⟨gu, rfl, ht7, hb7⟩
        have HT7 := Lib.hid ht7
        have HB7 := Lib.hid (HB6.out.trans (hb7.mono HB6.out.size))
        have HMU := Lib.hid (most_any _ gu _ _ _ w7 ht7 HF2.out)
        rw [HBS.out] at HMU
        have HG2 := Lib.hid (fun (x : Int) (hx : -9223372036854775808 ≤ x ∧ x ≤ 9223372036854775807) (V : World) (hV : Below w7.heap.size w7 V) => show Calls Try.prog 14 #[.pointer (some ⟨gu, 0, none⟩), .int .i64 x] V fun e w' => e = .returned (.tuple #[.int .i64 ((getL ps ns x).1 : Nat), .bool (getL ps ns x).2]) ∧ Below V.heap.size V w' from by
          have := get_fn _ gu _ _ _ x V (HT7.out.below hV) HF2.out hx
          rwa [HEQ.out x] at this)
        clear ht7 hb7 HD
        gi_wp2
        refine ⟨trivial, (callsIn_wide.2 HMU.out).mono ?_⟩
        rintro e w8 ⟨rfl, hb8⟩
        have HB8 := Lib.hid hb8
        have HM8 := Lib.hid (HMO.out w8 (HT5.out.below (HB7.out.trans (hb8.mono HB7.out.size))))
        clear hb8 HMU
        gi_wp2
        refine ⟨trivial, (callsIn_wide.2 HM8.out).mono ?_⟩
        rintro e w9 ⟨rfl, hb9⟩
        have HB9 := Lib.hid (HB8.out.trans (hb9.mono HB8.out.size))
        clear hb9 HM8
        gi_wp2
        gi_loopw [16] (fun i wr => ∃ z : Int, -1 ≤ z ∧ z ≤ 60 ∧ i = .int .i64 z ∧ Below w7.heap.size w7 wr) (fun i _ => (60 - intOf i).toNat)
        case atStart => exact ⟨-1, by decide, by decide, rfl, HB9.out⟩
        case round =>
          obtain ⟨z, hz1, hz2, rfl, hbu⟩ := hrel
          rename World => wu
          have HBU := Lib.hid hbu
          clear hbu
          by_cases hlt : z < 60
          · have HGZ := Lib.hid (HG1.out z (by omega) wu (HB7.out.trans (HBU.out.mono HB7.out.size)))
            have HGY := Lib.hid (HG2.out z (by omega))
            generalize ((getL ps ns z).1 : Int) = gv at *
            generalize (getL ps ns z).2 = gb at *
            gi_wp2
            refine ⟨trivial, (callsIn_wide.2 HGZ.out).mono ?_⟩
            rintro e wa ⟨rfl, hba⟩
            have HBA := Lib.hid (HBU.out.trans (hba.mono HBU.out.size))
            clear hba
            gi_wp2
            refine ⟨trivial, (callsIn_wide.2 (HGY.out wa HBA.out)).mono ?_⟩
            rintro e wb ⟨rfl, hbb⟩
            have HBB := Lib.hid (HBA.out.trans (hbb.mono HBA.out.size))
            clear hbb
            have hne : (gb != gb) = false := by cases gb <;> rfl
            gi_wp2
            go_roundw
            case rel => exact ⟨z + 1, by omega, by omega, by first | rfl | go_num, HBB.out⟩
            case measure => simp [intOf]; omega
          · have hge : ¬ z < 60 := hlt
            have HGZ := Lib.hid (HG1.out id hid wu (HB7.out.trans (HBU.out.mono HB7.out.size)))
            have HGY := Lib.hid (HG2.out id hid)
            generalize ((getL ps ns id).1 : Int) = gv at *
            generalize (getL ps ns id).2 = gb at *
            gi_wp2
            refine ⟨trivial, (callsIn_wide.2 HGZ.out).mono ?_⟩
            rintro e wa ⟨rfl, hba⟩
            have HBA := Lib.hid (HBU.out.trans (hba.mono HBU.out.size))
            clear hba
            gi_wp2
            refine ⟨trivial, (callsIn_wide.2 (HGY.out wa HBA.out)).mono ?_⟩
            rintro e wb ⟨rfl, hbb⟩
            have HBB := Lib.hid (HBA.out.trans (hbb.mono HBA.out.size))
            clear hbb
            have hne : (gb != gb) = false := by cases gb <;> rfl
            gi_wp2
            go_roundw
            case rel => exact ⟨.inr (.inr (.inl (by go_num))), HB7.out.trans (HBB.out.mono HB7.out.size)⟩
            case measure => simp [intOf]
      · by_cases hbm : 65535 < M
        · have dm : decide ((65535 : Int) < M) = true := by simp; omega
          gi_wp2
          refine ⟨trivial, (callsIn_wide.2 HMQ.out).mono ?_⟩
          rintro e w6 ⟨rfl, hb6⟩
          have HB6 := Lib.hid (HBQ.out.trans (hb6.mono HBQ.out.size))
          clear hb6
          gi_wp2
          go_roundw
          case rel => exact ⟨.inr (.inr (.inr (.inl (by go_num)))), HB6.out⟩
          case measure => simp [intOf]
        have dm : decide ((65535 : Int) < M) = false := by simp; omega
        have hM6 : M ≤ 65535 := by omega
        have hR250 : R.length ≤ 250 := by rw [← HL.out]; omega
        have hRl : R.length ≤ 65535 := by omega
        have hok := six_ok 2 (.inl rfl) R HR.out hRl 40
        have ht : tabR (six 2 R) _ = tabS 0 R := six_tab 2 (.inl rfl) R HR.out hRl
        have hfit := hok.fit (by decide) (.inl rfl)
        have HD := Lib.hid (fun V (hV : Below w5.heap.size w5 V) => lread_some a3 l3 f3 (six 2 R) 40 2 40 2 rfl rfl _ V (X3.out.below hV) L3.out m5 m6 (by decide) (by decide) (.inl rfl) hok)
        rw [ht] at hfit HD
        have HF2 := Lib.hid hfit
        have HG1 := Lib.hid (fun (x : Int) (hx : -9223372036854775808 ≤ x ∧ x ≤ 9223372036854775807) (V : World) (hV : Below w5.heap.size w5 V) => show Calls Try.prog 14 #[.pointer (some ⟨g, 0, none⟩), .int .i64 x] V fun e w' => e = .returned (.tuple #[.int .i64 ((getL ps ns x).1 : Nat), .bool (getL ps ns x).2]) ∧ Below V.heap.size V w' from get_fn _ g _ _ _ x V (HT5.out.below hV) HF.out hx)
        have HBS := Lib.hid (show mostL (allL (tabS 0 R).2 (tabS 0 R).1) = M from by rw [HPP.out hM6, HBK.out 0, HM.out])
        have HEQ := Lib.hid (fun x => show getL (tabS 0 R).1 (tabS 0 R).2 x = getL ps ns x from by rw [getL_tab HR.out x, HPP.out hM6]; exact HGP.out hM6 x)
        clear hok ht hfit hRl hR250
        gi_wp2
        refine ⟨trivial, (callsIn_wide.2 HMQ.out).mono ?_⟩
        rintro e w6 ⟨rfl, hb6⟩
        have HB6 := Lib.hid (HBQ.out.trans (hb6.mono HBQ.out.size))
        clear hb6 HMQ
        gi_wp2
        refine ⟨trivial, (callsIn_wide.2 (HD.out _ HB6.out)).mono ?_⟩
        rintro e w7 ⟨gu, rfl, ht7, hb7⟩
        have HT7 := Lib.hid ht7
        have HB7 := Lib.hid (HB6.out.trans (hb7.mono HB6.out.size))
        have HMU := Lib.hid (most_any _ gu _ _ _ w7 ht7 HF2.out)
        rw [HBS.out] at HMU
        have HG2 := Lib.hid (fun (x : Int) (hx : -9223372036854775808 ≤ x ∧ x ≤ 9223372036854775807) (V : World) (hV : Below w7.heap.size w7 V) => show Calls Try.prog 14 #[.pointer (some ⟨gu, 0, none⟩), .int .i64 x] V fun e w' => e = .returned (.tuple #[.int .i64 ((getL ps ns x).1 : Nat), .bool (getL ps ns x).2]) ∧ Below V.heap.size V w' from by
          have := get_fn _ gu _ _ _ x V (HT7.out.below hV) HF2.out hx
          rwa [HEQ.out x] at this)
        clear ht7 hb7 HD
        gi_wp2
        refine ⟨trivial, (callsIn_wide.2 HMU.out).mono ?_⟩
        rintro e w8 ⟨rfl, hb8⟩
        have HB8 := Lib.hid hb8
        have HM8 := Lib.hid (HMO.out w8 (HT5.out.below (HB7.out.trans (hb8.mono HB7.out.size))))
        clear hb8 HMU
        gi_wp2
        refine ⟨trivial, (callsIn_wide.2 HM8.out).mono ?_⟩
        rintro e w9 ⟨rfl, hb9⟩
        have HB9 := Lib.hid (HB8.out.trans (hb9.mono HB8.out.size))
        clear hb9 HM8
        gi_wp2
        gi_loopw [16] (fun i wr => ∃ z : Int, -1 ≤ z ∧ z ≤ 60 ∧ i = .int .i64 z ∧ Below w7.heap.size w7 wr) (fun i _ => (60 - intOf i).toNat)
        case atStart => exact ⟨-1, by decide, by decide, rfl, HB9.out⟩
        case round =>
          obtain ⟨z, hz1, hz2, rfl, hbu⟩ := hrel
          rename World => wu
          have HBU := Lib.hid hbu
          clear hbu
          by_cases hlt : z < 60
          · have HGZ := Lib.hid (HG1.out z (by omega) wu (HB7.out.trans (HBU.out.mono HB7.out.size)))
            have HGY := Lib.hid (HG2.out z (by omega))
            generalize ((getL ps ns z).1 : Int) = gv at *
            generalize (getL ps ns z).2 = gb at *
            gi_wp2
            refine ⟨trivial, (callsIn_wide.2 HGZ.out).mono ?_⟩
            rintro e wa ⟨rfl, hba⟩
            have HBA := Lib.hid (HBU.out.trans (hba.mono HBU.out.size))
            clear hba
            gi_wp2
            refine ⟨trivial, (callsIn_wide.2 (HGY.out wa HBA.out)).mono ?_⟩
            rintro e wb ⟨rfl, hbb⟩
            have HBB := Lib.hid (HBA.out.trans (hbb.mono HBA.out.size))
            clear hbb
            have hne : (gb != gb) = false := by cases gb <;> rfl
            gi_wp2
            go_roundw
            case rel => exact ⟨z + 1, by omega, by omega, by first | rfl | go_num, HBB.out⟩
            case measure => simp [intOf]; omega
          · have hge : ¬ z < 60 := hlt
            have HGZ := Lib.hid (HG1.out id hid wu (HB7.out.trans (HBU.out.mono HB7.out.size)))
            have HGY := Lib.hid (HG2.out id hid)
            generalize ((getL ps ns id).1 : Int) = gv at *
            generalize (getL ps ns id).2 = gb at *
            gi_wp2
            refine ⟨trivial, (callsIn_wide.2 HGZ.out).mono ?_⟩
            rintro e wa ⟨rfl, hba⟩
            have HBA := Lib.hid (HBU.out.trans (hba.mono HBU.out.size))
            clear hba
            gi_wp2
            refine ⟨trivial, (callsIn_wide.2 (HGY.out wa HBA.out)).mono ?_⟩
            rintro e wb ⟨rfl, hbb⟩
            have HBB := Lib.hid (HBA.out.trans (hbb.mono HBA.out.size))
            clear hbb
            have hne : (gb != gb) = false := by cases gb <;> rfl
            gi_wp2
            go_roundw
            case rel => exact ⟨.inr (.inr (.inr (.inl (by go_num)))), HB7.out.trans (HBB.out.mono HB7.out.size)⟩
            case measure => simp [intOf]
      · by_cases hL1 : 1 < L
        · have dl : decide ((1 : Int) < (L : Int)) = true := by simp; omega
          gi_wp2
          refine ⟨trivial, ?_⟩
          gi_wp2
          go_roundw
          case rel => exact ⟨.inr (.inr (.inr (.inr (by go_num)))), HBQ.out⟩
          case measure => simp [intOf]
        have dl : decide ((1 : Int) < (L : Int)) = false := by simp; omega
        by_cases hbm : 65535 < M
        · have dm : decide ((65535 : Int) < M) = true := by simp; omega
          gi_wp2
          refine ⟨trivial, (callsIn_wide.2 HMQ.out).mono ?_⟩
          rintro e w6 ⟨rfl, hb6⟩
          have HB6 := Lib.hid (HBQ.out.trans (hb6.mono HBQ.out.size))
          clear hb6
          gi_wp2
          go_roundw
          case rel => exact ⟨.inr (.inr (.inr (.inr (by go_num)))), HB6.out⟩
          case measure => simp [intOf]
        have dm : decide ((65535 : Int) < M) = false := by simp; omega
        have hM6 : M ≤ 65535 := by omega
        obtain ⟨rs4, hok4, hone4⟩ := eight_ok R HR.out (by rw [← HL.out]; omega) 40
        obtain ⟨hl4, hx4⟩ := X4.out (by omega)
        have hR250 : R.length ≤ 250 := by rw [← HL.out]; omega
        have hRl : R.length ≤ 65535 := by omega
        have hok := hok4
        have ht : tabR (eight R) _ = tabS 1 R := hone4.tab
        have hfit := hok.fit (by decide) (.inl rfl)
        have HD := Lib.hid (fun V (hV : Below w5.heap.size w5 V) => lread_some a4 n4 f4 (eight R) 40 2 40 2 rfl rfl _ V (hx4.below hV) hl4.symm m7 m8 (by decide) (by decide) (.inl rfl) hok)
        rw [ht] at hfit HD
        have HF2 := Lib.hid hfit
        have HG1 := Lib.hid (fun (x : Int) (hx : -9223372036854775808 ≤ x ∧ x ≤ 9223372036854775807) (V : World) (hV : Below w5.heap.size w5 V) => show Calls Try.prog 14 #[.pointer (some ⟨g, 0, none⟩), .int .i64 x] V fun e w' => e = .returned (.tuple #[.int .i64 ((getL ps ns x).1 : Nat), .bool (getL ps ns x).2]) ∧ Below V.heap.size V w' from get_fn _ g _ _ _ x V (HT5.out.below hV) HF.out hx)
        have HBS := Lib.hid (show mostL (allL (tabS 1 R).2 (tabS 1 R).1) = M from by rw [HPP.out hM6, HBK.out 1, HM.out])
        have HEQ := Lib.hid (fun x => show getL (tabS 1 R).1 (tabS 1 R).2 x = getL ps ns x from by rw [getL_tab HR.out x, HPP.out hM6]; exact HGP.out hM6 x)
        clear hok ht hfit hRl hR250 hok4 hone4 hl4 hx4 rs4
        gi_wp2
        refine ⟨trivial, (callsIn_wide.2 HMQ.out).mono ?_⟩
        rintro e w6 ⟨rfl, hb6⟩
        have HB6 := Lib.hid (HBQ.out.trans (hb6.mono HBQ.out.size))
        clear hb6 HMQ
        gi_wp2
        refine ⟨trivial, (callsIn_wide.2 (HD.out _ HB6.out)).mono ?_⟩
        rintro e w7 ⟨gu, rfl, ht7, hb7⟩
        have HT7 := Lib.hid ht7
        have HB7 := Lib.hid (HB6.out.trans (hb7.mono HB6.out.size))
        have HMU := Lib.hid (most_any _ gu _ _ _ w7 ht7 HF2.out)
        rw [HBS.out] at HMU
        have HG2 := Lib.hid (fun (x : Int) (hx : -9223372036854775808 ≤ x ∧ x ≤ 9223372036854775807) (V : World) (hV : Below w7.heap.size w7 V) => show Calls Try.prog 14 #[.pointer (some ⟨gu, 0, none⟩), .int .i64 x] V fun e w' => e = .returned (.tuple #[.int .i64 ((getL ps ns x).1 : Nat), .bool (getL ps ns x).2]) ∧ Below V.heap.size V w' from by
          have := get_fn _ gu _ _ _ x V (HT7.out.below hV) HF2.out hx
          rwa [HEQ.out x] at this)
        clear ht7 hb7 HD
        gi_wp2
        refine ⟨trivial, (callsIn_wide.2 HMU.out).mono ?_⟩
        rintro e w8 ⟨rfl, hb8⟩
        have HB8 := Lib.hid hb8
        have HM8 := Lib.hid (HMO.out w8 (HT5.out.below (HB7.out.trans (hb8.mono HB7.out.size))))
        clear hb8 HMU
        gi_wp2
        refine ⟨trivial, (callsIn_wide.2 HM8.out).mono ?_⟩
        rintro e w9 ⟨rfl, hb9⟩
        have HB9 := Lib.hid (HB8.out.trans (hb9.mono HB8.out.size))
        clear hb9 HM8
        gi_wp2
        gi_loopw [16] (fun i wr => ∃ z : Int, -1 ≤ z ∧ z ≤ 60 ∧ i = .int .i64 z ∧ Below w7.heap.size w7 wr) (fun i _ => (60 - intOf i).toNat)
        case atStart => exact ⟨-1, by decide, by decide, rfl, HB9.out⟩
        case round =>
          obtain ⟨z, hz1, hz2, rfl, hbu⟩ := hrel
          rename World => wu
          have HBU := Lib.hid hbu
          clear hbu
          by_cases hlt : z < 60
          · have HGZ := Lib.hid (HG1.out z (by omega) wu (HB7.out.trans (HBU.out.mono HB7.out.size)))
            have HGY := Lib.hid (HG2.out z (by omega))
            generalize ((getL ps ns z).1 : Int) = gv at *
            generalize (getL ps ns z).2 = gb at *
            gi_wp2
            refine ⟨trivial, (callsIn_wide.2 HGZ.out).mono ?_⟩
            rintro e wa ⟨rfl, hba⟩
            have HBA := Lib.hid (HBU.out.trans (hba.mono HBU.out.size))
            clear hba
            gi_wp2
            refine ⟨trivial, (callsIn_wide.2 (HGY.out wa HBA.out)).mono ?_⟩
            rintro e wb ⟨rfl, hbb⟩
            have HBB := Lib.hid (HBA.out.trans (hbb.mono HBA.out.size))
            clear hbb
            have hne : (gb != gb) = false := by cases gb <;> rfl
            gi_wp2
            go_roundw
            case rel => exact ⟨z + 1, by omega, by omega, by first | rfl | go_num, HBB.out⟩
            case measure => simp [intOf]; omega
          · have hge : ¬ z < 60 := hlt
            have HGZ := Lib.hid (HG1.out id hid wu (HB7.out.trans (HBU.out.mono HB7.out.size)))
            have HGY := Lib.hid (HG2.out id hid)
            generalize ((getL ps ns id).1 : Int) = gv at *
            generalize (getL ps ns id).2 = gb at *
            gi_wp2
            refine ⟨trivial, (callsIn_wide.2 HGZ.out).mono ?_⟩
            rintro e wa ⟨rfl, hba⟩
            have HBA := Lib.hid (HBU.out.trans (hba.mono HBU.out.size))
            clear hba
            gi_wp2
            refine ⟨trivial, (callsIn_wide.2 (HGY.out wa HBA.out)).mono ?_⟩
            rintro e wb ⟨rfl, hbb⟩
            have HBB := Lib.hid (HBA.out.trans (hbb.mono HBA.out.size))
            clear hbb
            have hne : (gb != gb) = false := by cases gb <;> rfl
            gi_wp2
            go_roundw
            case rel => exact ⟨.inr (.inr (.inr (.inr (by go_num)))), HB7.out.trans (HBB.out.mono HB7.out.size)⟩
            case measure => simp [intOf]
      · have H4w := Lib.hid ((HBQ.out.block _ (by have := (Array.getElem?_eq_some_iff.1 H4.out).1; have := HB5.out.size; omega)).trans ((HB5.out.block _ (Array.getElem?_eq_some_iff.1 H4.out).1).trans H4.out))
        have p4 := cell_of_heap H4w.out 0
        have f4 := fun o => froz_of_heap H4w.out o
        simp only [List.getElem?_toArray, List.getElem?_cons_zero] at p4
        have hl4 := cell_lt p4
        simp only at hl4
        have HKQ := Lib.hid ((HBQ.out.block D (by have := (Array.getElem?_eq_some_iff.1 HK.out).1; have := HB5.out.size; omega)).trans ((HB5.out.block D (Array.getElem?_eq_some_iff.1 HK.out).1).trans HK.out))
        have HBW := Lib.hid (HB.out.trans ((HB5.out.trans (HBQ.out.mono HB5.out.size)).mono HB.out.size))
        gi_wp2
        have hK' := (KeepsOthers.setCell wq ⟨w.heap.size, 0, none⟩ (.bool true)).same D _ HKQ.out rfl
        refine ⟨by simp, .inl ⟨_, _, rfl, run_takeDeferred hK', ?_⟩⟩
        have hc5 := cell_kept (World.cell?_setCell_same' wq ⟨w.heap.size, 0, none⟩ (.bool true) (by rw [p4]; rfl)) (grownBy_putObj' _ D (.deferred none)) (fun r e => by cases e; exact ⟨_, hK', rfl⟩)
        refine ⟨.bool true, by simp [results, Try.f3, go_sem, hc5], rfl, ?_⟩
        exact (HBW.out.setCell (p := ⟨w.heap.size, 0, none⟩) (Nat.le_refl _) _).trans (belowK_b (w := w) (Nat.le_refl _) _ D _ _ (by omega) hK' rfl rfl)
  case stop =>
    rintro D c pre W hD hpre ⟨⟨rfl, h4⟩, hB⟩ hK
    have p4 := cell_of_heap h4 0
    have f4 := fun o => froz_of_heap h4 o
    simp only [List.getElem?_toArray, List.getElem?_cons_zero] at p4
    have hl4 := cell_lt p4
    simp only at hl4
    have H4 := Lib.hid h4
    have HB := Lib.hid hB
    have HK := Lib.hid hK
    clear h4 hB hK
    gi_wp2
    have hK' := HK.out
    refine ⟨by simp, .inl ⟨_, _, rfl, run_takeDeferred hK', ?_⟩⟩
    have hc5 := cell_kept p4 (grownBy_putObj' _ D (.deferred none)) (fun r e => by cases e; exact ⟨_, hK', rfl⟩)
    refine ⟨.bool true, by simp [results, Try.f3, go_sem, hc5], rfl, ?_⟩
    exact HB.out.trans (belowK_b (w := w) (Nat.le_refl _) _ D _ _ (by omega) hK' rfl rfl)
end Go.Proofs.Ythepejljgolcoaa
