
/- What All tells: each glyph that has a number, rising, no other; its iterator over just these. Conditions: as the lemmas say. -/
import Derived.Test.YtajhljgcbafbcaaLSpeak
namespace Go.Proofs.Ytajhljgcbafbcaa
open Go.RowKit Go.Lib Go.Shelf

def lastG (l : List (Int × Int)) : Int := (l.getLast?.map (·.1)).getD (-1)
theorem lastG_snoc (l : List (Int × Int)) (x : Int × Int) : lastG (l ++ [x]) = x.1 := by simp [lastG]
theorem mem_glyphsP {ns : List Nat} {p : PartL} {d : Nat} {x : Int × Int} : x ∈ glyphsP ns p d ↔ ∃ i, i < d ∧ x = ((p.first : Int) + (i : Int), ((ns.getD (p.at_ + p.step * i) 0 : Nat) : Int)) := by
  unfold glyphsP
  rw [List.mem_map]
  constructor
  · rintro ⟨i, hi, rfl⟩; exact ⟨i, List.mem_range.1 hi, rfl⟩
  · rintro ⟨i, hi, rfl⟩; exact ⟨i, List.mem_range.2 hi, rfl⟩
theorem mem_allL {ps : List PartL} {ns : List Nat} (hf : FitL ps ns) {x : Int × Int} (hx : x ∈ allL ns ps) : getL ps ns x.1 = (x.2.toNat, true) ∧ ((x.2.toNat : Nat) : Int) = x.2 ∧ 0 ≤ x.1 ∧ x.1 ≤ 70000 := by
  unfold allL at hx
  obtain ⟨p, hp, hx⟩ := List.mem_flatMap.1 hx
  obtain ⟨i, hi, rfl⟩ := mem_glyphsP.1 hx
  have h1 := hf.rising.2 p hp
  have h2 := (hf.ok p hp).2.2
  refine ⟨?_, by simp, by show 0 ≤ (p.first : Int) + (i : Int); omega, by show (p.first : Int) + (i : Int) ≤ 70000; omega⟩
  rw [getL_in hf.rising hp (by show (p.first : Int) ≤ (p.first : Int) + (i : Int); omega) (by show (p.first : Int) + (i : Int) ≤ (p.last : Int); omega)]
  simp only [show ((p.first : Int) + (i : Int) - (p.first : Int)).toNat = i by omega, Int.toNat_natCast]
theorem allL_mem {ps : List PartL} {ns : List Nat} (hf : FitL ps ns) {i : Int} (hi : (getL ps ns i).2 = true) : ∃ x ∈ allL ns ps, x.1 = i := by
  by_cases h : ∃ p ∈ ps, (p.first : Int) ≤ i ∧ i ≤ (p.last : Int)
  · obtain ⟨p, hp, h1, h2⟩ := h
    have h3 := hf.rising.2 p hp
    refine ⟨((p.first : Int) + (((i - p.first).toNat : Nat) : Int), _), List.mem_flatMap.2 ⟨p, hp, mem_glyphsP.2 ⟨(i - p.first).toNat, by omega, rfl⟩⟩, by show (p.first : Int) + _ = i; omega⟩
  · rw [getL_out (fun p hp hx => h ⟨p, hp, hx⟩)] at hi
    cases hi
theorem allL_rises {ps : List PartL} {ns : List Nat} (hr : Rising ps) : (allL ns ps).Pairwise (fun x y => x.1 < y.1) := by
  unfold allL
  rw [List.pairwise_flatMap]
  constructor
  · intro p hp
    unfold glyphsP
    rw [List.pairwise_map]
    exact List.pairwise_lt_range.imp fun {a b} h => by show (p.first : Int) + (a : Int) < (p.first : Int) + (b : Int); omega
  · refine hr.1.imp_of_mem fun {p q} hp hq hpq => ?_
    intro x hx y hy
    obtain ⟨i, hi, rfl⟩ := mem_glyphsP.1 hx
    obtain ⟨j, hj, rfl⟩ := mem_glyphsP.1 hy
    have := hr.2 p hp
    show (p.first : Int) + (i : Int) < (q.first : Int) + (j : Int)
    omega
theorem all_next {ps : List PartL} {ns : List Nat} (hf : FitL ps ns) {pre : List (Int × Int)} {x : Int × Int} (h : pre ++ [x] <+: allL ns ps) : lastG pre < x.1 ∧ ∀ i, lastG pre < i → i < x.1 → (getL ps ns i).2 = false := by
  obtain ⟨rest, hr⟩ := h
  have hp := allL_rises (ns := ns) hf.rising
  rw [← hr, List.append_assoc, List.pairwise_append] at hp
  obtain ⟨p1, p2, p3⟩ := hp
  have hxr : ∀ y ∈ rest, x.1 < y.1 := by
    simp only [List.singleton_append, List.pairwise_cons] at p2
    exact p2.1
  have hlast : ∀ y ∈ pre, y.1 ≤ lastG pre := by
    rcases List.eq_nil_or_concat pre with rfl | ⟨q, z, rfl⟩
    · intro y hy; cases hy
    · intro y hy
      rw [List.concat_eq_append, lastG_snoc]
      rw [List.concat_eq_append] at hy p1
      rcases List.mem_append.1 hy with hy | hy
      · have := (List.pairwise_append.1 p1).2.2 y hy z (by simp)
        omega
      · simp at hy; subst hy; exact Int.le_refl _
  refine ⟨?_, fun i h1 h2 => ?_⟩
  · rcases List.eq_nil_or_concat pre with rfl | ⟨q, z, rfl⟩
    · have hm : x ∈ allL ns ps := by rw [← hr]; simp
      have := (mem_allL hf hm).2.2.1
      simp [lastG]
      omega
    · rw [List.concat_eq_append, lastG_snoc]
      exact p3 z (by simp) x (by simp)
  · cases hb : (getL ps ns i).2 with
    | false => rfl
    | true =>
      obtain ⟨y, hy, rfl⟩ := allL_mem hf hb
      rw [← hr, List.append_assoc] at hy
      rcases List.mem_append.1 hy with hy | hy
      · have := hlast y hy; omega
      · rcases List.mem_append.1 hy with hy | hy
        · simp at hy; subst hy; omega
        · have := hxr y hy; omega
abbrev Gl (ns : List Nat) (ps : List PartL) := { x : Int × Int // x ∈ allL ns ps }
theorem all_stopsA (B B0 g fmt Bs : Nat) (own : Nat → Nat → Prop) (ps : List PartL) (ns : List Nat) (w : World) (hT : TabIs B g fmt ps ns w) (hf : FitL ps ns) (hBs : w.heap[Bs]? = some (.cells #[.pointer (some ⟨g, 0, none⟩)] 24 (0, 0)))
    (h1 : ∀ k, ¬ own k 94) (h2 : ∀ k, ¬ own k 105) (h3 : ¬ own g 92) (h4 : ¬ own Bs 24) :
    SeqStopsK Fence.wide 3 Try.prog 46 #[.pointer (some ⟨Bs, 0, none⟩)] (fun x : Gl ns ps => encG x.1) (KeepC B0 own) (fun ys => ys.map Subtype.val = allL ns ps) (fun pre => pre.map Subtype.val <+: allL ns ps) (allL ns ps).length w := fun l J Jx W hW hJ _ hY h0 => by
  refine (all1_any B B0 g fmt Bs own ps ns l (fun pre W => ∃ q : List (Gl ns ps), q.map Subtype.val = pre ∧ J q W) (fun pre W => ∃ q : List (Gl ns ps), q.map Subtype.val = pre ∧ Jx q W) W ?_ ?_ ⟨[], rfl, h0⟩ (hT.below hW) hf ((hW.block Bs (Array.getElem?_eq_some_iff.1 hBs).1).trans hBs) h1 h2 h3 h4).mono ?_
  · rintro s A C row ⟨q, hq, hj⟩ hg hr
    exact ⟨q, hq, hJ q A C row hj hg hr⟩
  · rintro pre x W1 ⟨q, rfl, hj⟩ hx hl
    refine (hY q ⟨x, hx⟩ W1 hj (by simpa using hl)).mono ?_
    rintro e W' (⟨h1, h2, h3⟩ | ⟨h1, h2⟩)
    · exact .inl ⟨h1, ⟨_, by simp, h2⟩, h3⟩
    · exact .inr ⟨h1, ⟨_, by simp, h2⟩⟩
  · rintro e W' ⟨he, ⟨ys, rfl, q, hq, hj⟩ | ⟨pre, hp, q, hq, hj⟩⟩
    · exact ⟨he, .inl ⟨q, hq, hj⟩⟩
    · exact ⟨he, .inr ⟨q, by show q.map Subtype.val <+: _; rw [hq]; exact hp, hj⟩⟩
theorem owns_kept {A C : World} {row : Option Nat} {base e size n : Nat} {v : Value} {xs : List Value} (h : A.ownsRow base e size v n xs) (hg : A.grownBy C row) (hr : ∀ r, row = some r → ∃ o : Obj, A.heap[r]? = some o ∧ o.isCells = false) : C.ownsRow base e size v n xs := by
  refine ⟨h.1, ?_⟩
  rcases h.2 with q | ⟨q, cap, cur, hv, hq, hh, r⟩
  · exact .inl q
  · exact .inr ⟨q, cap, cur, hv, hq, heap_kept hh hg hr, r⟩
theorem TabIs.grown {B g fmt : Nat} {ps : List PartL} {ns : List Nat} {A C : World} {row : Option Nat} (h : TabIs B g fmt ps ns A) (hg : A.grownBy C row) (hr : ∀ r, row = some r → ∃ o : Obj, A.heap[r]? = some o ∧ o.isCells = false) : TabIs B g fmt ps ns C := by
  obtain ⟨ap, cp, an, cn, e0, e1, e2⟩ := h.is
  exact ⟨ap, cp, an, cn, heap_kept e0 hg hr, owns_kept e1 hg hr, owns_kept e2 hg hr⟩
/-- What the loop's own cells hold when some glyphs have come. -/
structure AllI (W0 : World) (B g fmt : Nat) (ps : List PartL) (ns : List Nat) (few g3 g4 g5 g9 g10 : Nat) (pre : List (Int × Int)) (W : World) : Prop where
  last : W.heap[g9]? = some (.cells #[.int .i64 (lastG pre)] 3 (0, 0))
  n : W.heap[g10]? = some (.cells #[.int .i64 (pre.length : Nat)] 3 (0, 0))
  t : W.heap[g5]? = some (.cells #[.pointer (some ⟨g, 0, none⟩)] 24 (0, 0))
  cf : W.heap[g3]? = some (.cells #[.int .u8 (few : Nat)] 5 (0, 0))
  out : W.heap[g4]? = some (.cells #[.bool false] 4 (0, 0))
  tab : TabIs B g fmt ps ns W
  le : pre.length ≤ few
  bd : -1 ≤ lastG pre ∧ lastG pre ≤ 70000
theorem AllI.grown {W0 : World} {B g fmt : Nat} {ps : List PartL} {ns : List Nat} {few g3 g4 g5 g9 g10 : Nat} {pre : List (Int × Int)} {A C : World} {row : Option Nat} (h : AllI W0 B g fmt ps ns few g3 g4 g5 g9 g10 pre A) (hg : A.grownBy C row) (hr : ∀ r, row = some r → ∃ o : Obj, A.heap[r]? = some o ∧ o.isCells = false) : AllI W0 B g fmt ps ns few g3 g4 g5 g9 g10 pre C :=
  ⟨heap_kept h.last hg hr, heap_kept h.n hg hr, heap_kept h.t hg hr, heap_kept h.cf hg hr, heap_kept h.out hg hr, h.tab.grown hg hr, h.le, h.bd⟩
theorem keepsO {W W' : World} (h : Below W.heap.size W W') : KeepsOthers W W' := ⟨h.size, fun k o hk _ => (h.block k (Array.getElem?_eq_some_iff.1 hk).1).trans hk⟩
attribute [local go_sem] Oper.semAt_some
set_option maxRecDepth 100000 in
set_option maxHeartbeats 3200000 in
theorem lookupAll_some (a : Option Addr) (n c : Nat) (bs : List UInt8) (few : Nat) (hfew : few ≤ 255) (rs : List RP) (w : World) (h : Has w a (bytesV bs)) (hl : bs.length = n) (hn : n ≤ c) (hc : c ≤ maxLen) (hbig : n ≤ 400) (hok : LkOk bs 40 2 rs) :
    Calls Try.prog 3 #[.slice a n c, .int .u8 (few : Nat)] w fun e w' => e = .returned (.bool true) ∧ Below w.heap.size w w' := by
  have HS6 := Lib.hid speaks6_any
  have HRD := Lib.hid (fun W hW => lread_some a n c bs 40 2 40 2 rfl rfl rs W (h.below hW) hl hn hc (by decide) (by decide) (by decide) hok)
  have HF := Lib.hid (hok.fit (by decide) (by decide))
  have d1 : decide (400 < (n : Int)) = false := by simp; omega
  clear h hl hok
  refine (callsIn_wide (n := 4)).1 ?_
  refine callsIn_of_wp_marks Try.func3 rfl trivial ?_ rfl
  simp only [Try.ntmps3, List.size_toArray, List.length_cons, List.length_nil, Nat.reduceAdd, Nat.reduceSub, Array.replicate_succ, Array.replicate_zero, List.push_toArray, List.append_toArray, List.nil_append, List.cons_append]
  gi_wp2
  refine ⟨trivial, (callsIn_wide.2 (HS6.out _)).mono ?_⟩
  rintro e w1 ⟨rfl, hb1⟩
  have c3 : w1.heap[w.heap.size]? = some (.cells #[.int .u8 (few : Nat)] 5 (0, 0)) := (hb1.block _ (by simp; omega)).trans (by rw [heap_push, if_neg (by simp), heap_push, if_pos rfl])
  have c4 : w1.heap[w.heap.size + 1]? = some (.cells #[.bool false] 4 (0, 0)) := (hb1.block _ (by simp)).trans (by rw [heap_push, if_pos (by simp)])
  have HB1 := Lib.hid (bthen (balloc (balloc (brefl w) _) _) hb1)
  have hz1 := hb1.size
  simp only [World.size_alloc] at hz1
  clear hb1
  gi_wp2
  refine ⟨trivial, (callsIn_wide.2 (HRD.out _ HB1.out)).mono ?_⟩
  rintro e w2 ⟨g, rfl, ht2, hb2⟩
  have HT2 := Lib.hid ht2
  have C3 := Lib.hid ((hb2.block _ (by omega)).trans c3)
  have C4 := Lib.hid ((hb2.block _ (by omega)).trans c4)
  have HB2 := Lib.hid (bthen HB1.out hb2)
  have hz2 : w.heap.size + 1 < w2.heap.size := by have := hb2.size; omega
  clear ht2 hb2 c3 c4
  generalize (tabR bs rs).1 = ps at *
  generalize (tabR bs rs).2 = ns at *
  generalize num bs 0 2 = fmt at *
  gi_wp2
  refine ⟨trivial, (callsIn_wide.2 (all_any g _)).mono ?_⟩
  rintro e w3 ⟨rfl, rfl⟩
  obtain ⟨W3, hW3⟩ : ∃ W3, W3 = (((w2.alloc (Obj.cells #[.pointer (some ⟨g, 0, none⟩)] 24)).alloc (Obj.cells #[.int .i64 (-1)] 3)).alloc (Obj.cells #[.int .i64 0] 3)).alloc (Obj.cells #[.pointer (some ⟨g, 0, none⟩)] 24) := ⟨_, rfl⟩
  have hb3 : Below w2.heap.size w2 W3 := by rw [hW3]; exact balloc (balloc (balloc (balloc (brefl _) _) _) _) _
  have hz3 : W3.heap.size = w2.heap.size + 4 := by rw [hW3]; simp
  have e5 : W3.heap[w2.heap.size]? = some (.cells #[.pointer (some ⟨g, 0, none⟩)] 24 (0, 0)) := by rw [hW3, heap_push, if_neg (by simp <;> omega), heap_push, if_neg (by simp <;> omega), heap_push, if_neg (by simp), heap_push, if_pos rfl]
  have e9 : W3.heap[w2.heap.size + 1]? = some (.cells #[.int .i64 (-1)] 3 (0, 0)) := by rw [hW3, heap_push, if_neg (by simp <;> omega), heap_push, if_neg (by simp), heap_push, if_pos (by simp)]
  have e10 : W3.heap[w2.heap.size + 2]? = some (.cells #[.int .i64 0] 3 (0, 0)) := by rw [hW3, heap_push, if_neg (by simp), heap_push, if_pos (by simp)]
  have eB : W3.heap[w2.heap.size + 3]? = some (.cells #[.pointer (some ⟨g, 0, none⟩)] 24 (0, 0)) := by rw [hW3, heap_push, if_pos (by simp)]
  have HI0 := Lib.hid (show AllI W3 w1.heap.size g fmt ps ns few w.heap.size (w.heap.size + 1) w2.heap.size (w2.heap.size + 1) (w2.heap.size + 2) [] W3 from ⟨e9, e10, e5, (hb3.block _ (by omega)).trans C3.out, (hb3.block _ (by omega)).trans C4.out, HT2.out.below hb3, Nat.zero_le _, by simp [lastG]⟩)
  have HB3 := Lib.hid (bthen HB2.out hb3)
  gi_wp2
  rw [← hW3]
  have hwW : w.heap.size ≤ W3.heap.size := HB3.out.size
  refine wpIn_rangeFunc_ownF (α := Gl ns ps) rfl (by decide) (gf := 46) (lb := #[.pointer (some ⟨w2.heap.size + 1 + 1 + 1, 0, none⟩)]) rfl trivial (enters_of Try.func46 (by kernel_rfl) rfl)
    (all_stopsA w1.heap.size w.heap.size g fmt (w2.heap.size + 1 + 1 + 1) (fun k t => t = 3 ∧ (k = w2.heap.size + 1 ∨ k = w2.heap.size + 2)) ps ns W3 HI0.out.tab HF.out eB (fun k hx => absurd hx.1 (by decide)) (fun k hx => absurd hx.1 (by decide)) (fun hx => absurd hx.1 (by decide)) (fun hx => absurd hx.1 (by decide)))
    (fun h k => KeepC.trans h k) (fun W l o o' hl h hc hw => KeepC.put hwW W l o o' hl h hc hw) (Below.refl _ _) (fun _ => rfl)
    (fun pre W => AllI W3 w1.heap.size g fmt ps ns few w.heap.size (w.heap.size + 1) w2.heap.size (w2.heap.size + 1) (w2.heap.size + 2) (pre.map Subtype.val) W ∧ Below w.heap.size w W)
    (fun c pre W => ((c = .ret ∧ ¬ (pre.map Subtype.val <+: allL ns ps)) ∨ (c = .exit 0 ∧ W.heap[w.heap.size + 1]? = some (.cells #[.bool false] 4 (0, 0)))) ∧ Below w.heap.size w W)
    (OwnFrom.and (show OwnFrom _ (fun (pre : List (Gl ns ps)) (W : World) => AllI W3 w1.heap.size g fmt ps ns few w.heap.size (w.heap.size + 1) w2.heap.size (w2.heap.size + 1) (w2.heap.size + 2) (pre.map Subtype.val) W) from fun s A C row hs hg hr => hs.grown hg (fun r e => (hr r e).2)) (ownFrom_below (Nat.le_refl _) hwW))
    (fun c => OwnFrom.and (show OwnFrom _ (fun (pre : List (Gl ns ps)) (W : World) => (c = .ret ∧ ¬ (pre.map Subtype.val <+: allL ns ps)) ∨ (c = .exit 0 ∧ W.heap[w.heap.size + 1]? = some (.cells #[.bool false] 4 (0, 0)))) from fun s A C row hs hg hr => hs.imp id (fun hx => ⟨hx.1, heap_kept hx.2 hg (fun r e => (hr r e).2)⟩)) (ownFrom_below (Nat.le_refl _) hwW))
    ⟨HI0.out, HB3.out⟩ ?a1 ?assign ?body ?done ?stop
  case assign =>
    intro l x W K hK
    gi_wp2
    exact hK
  case body =>
    rintro l pre ⟨⟨id, v⟩, hx⟩ W ⟨hI, hB⟩ _
    obtain ⟨hg, hv, hi0, hi1⟩ := mem_allL HF.out hx
    simp only at hg hv hi0 hi1
    have HNX := Lib.hid (show (pre ++ [(⟨(id, v), hx⟩ : Gl ns ps)]).map Subtype.val <+: allL ns ps → lastG (pre.map Subtype.val) < id ∧ ∀ i, lastG (pre.map Subtype.val) < i → i < id → (getL ps ns i).2 = false from fun hp => all_next HF.out (by simpa using hp))
    have HGT := Lib.hid (fun (V : World) (ht : TabIs w1.heap.size g fmt ps ns V) (i : Int) (hi : -9223372036854775808 ≤ i ∧ i ≤ 9223372036854775807) => get_fn w1.heap.size g fmt ps ns i V ht HF.out hi)
    have HGI := Lib.hid (show ∀ V, TabIs w1.heap.size g fmt ps ns V → Calls Try.prog 19 #[.pointer (some ⟨g, 0, none⟩), .int .i64 id] V fun e w' => e = .returned (.tuple #[.int .i64 v, .bool true]) ∧ Below V.heap.size V w' from fun V ht => by
      have := HGT.out V ht id (by omega)
      rw [hg, hv] at this
      exact this)
    have q9 := cell_of_heap hI.last 0
    have q10 := cell_of_heap hI.n 0
    have q5 := cell_of_heap hI.t 0
    have q3 := cell_of_heap hI.cf 0
    have q4 := cell_of_heap hI.out 0
    have f4 := fun o => froz_of_heap hI.out o
    simp only [List.getElem?_toArray, List.getElem?_cons_zero] at q9 q10 q5 q3 q4
    have hle := hI.le
    obtain ⟨bd1, bd2⟩ := hI.bd
    have HI := Lib.hid hI
    have HB := Lib.hid hB
    have HL9 := Lib.hid (show lastG ((pre ++ [(⟨(id, v), hx⟩ : Gl ns ps)]).map Subtype.val) = id from by simp [lastG])
    have HLN := Lib.hid (show ((pre ++ [(⟨(id, v), hx⟩ : Gl ns ps)]).map Subtype.val).length = (pre.map Subtype.val).length + 1 from by simp)
    clear hg hI hB
    generalize hxx : (pre ++ [(⟨(id, v), hx⟩ : Gl ns ps)]) = preX at *
    generalize hll : lastG (pre.map Subtype.val) = la at *
    generalize hnn : (pre.map Subtype.val).length = m at *
    have HLL := Lib.hid hll
    have HNN := Lib.hid hnn
    clear hll hnn hxx
    gi_wp2
    refine ⟨trivial, (CallsIn.inRound l (callsIn_wide.2 (HGI.out W HI.out.tab))).mono ?_⟩
    rintro e wb ⟨rfl, hbb⟩
    have HBB := Lib.hid hbb
    have p9 := (hbb.cell (p := ⟨w2.heap.size + 1, 0, none⟩) (cell_lt q9)).trans q9
    have p10 := (hbb.cell (p := ⟨w2.heap.size + 2, 0, none⟩) (cell_lt q10)).trans q10
    have p5 := (hbb.cell (p := ⟨w2.heap.size, 0, none⟩) (cell_lt q5)).trans q5
    have p3 := (hbb.cell (p := ⟨w.heap.size, 0, none⟩) (cell_lt q3)).trans q3
    have H4 := Lib.hid ((hbb.block (w.heap.size + 1) (cell_lt q4)).trans HI.out.out)
    have p4 := cell_of_heap H4.out 0
    have pf4 := fun o => froz_of_heap H4.out o
    simp only [List.getElem?_toArray, List.getElem?_cons_zero] at p4
    have HTB := Lib.hid (HI.out.tab.below hbb)
    have lw : w2.heap.size + 2 < wb.heap.size := cell_lt p10
    clear q9 q10 q5 q3 q4 f4 hbb
    by_cases hlt : la < id
    case neg =>
      have hge : id ≤ la := by omega
      gi_wp2
      refine ⟨KeepsOthers.trans (keepsO HBB.out) (KeepsOthers.setCell _ _ _), .inl ⟨rfl, fun hp => by have := (HNX.out hp).1; omega⟩, (HB.out.trans (HBB.out.mono HB.out.size)).setCell (p := ⟨w.heap.size + 1, 0, none⟩) (Nat.le_succ _) _⟩
    have hge : ¬ id ≤ la := by omega
    have hnf : ¬ (few : Int) < (m : Int) := by omega
    have db1 : decide (id ≤ la) = false := by simp; omega
    have db2 : decide ((few : Int) < (m : Int)) = false := by simp; omega
    have db3 : decide (few < m) = false := by simp; omega
    gi_wp2
    clear p9 p10 p5 p3 p4 pf4
    gi_loopw [15] (fun i wv => ∃ z : Int, i = .int .i64 z ∧ la + 1 ≤ z ∧ z ≤ id ∧ Below W.heap.size W wv) (fun i _ => (id - intOf i).toNat)
    case atStart => exact ⟨la + 1, rfl, Int.le_refl _, by omega, HBB.out⟩
    case round =>
      obtain ⟨z, rfl, hz1, hz2', hbv⟩ := hrel
      rename World => wv
      have HBV := Lib.hid hbv
      have hI := HI.out
      have p9 := cell_of_heap ((hbv.block _ (Array.getElem?_eq_some_iff.1 hI.last).1).trans hI.last) 0
      have p10 := cell_of_heap ((hbv.block _ (Array.getElem?_eq_some_iff.1 hI.n).1).trans hI.n) 0
      have p5 := cell_of_heap ((hbv.block _ (Array.getElem?_eq_some_iff.1 hI.t).1).trans hI.t) 0
      have p3 := cell_of_heap ((hbv.block _ (Array.getElem?_eq_some_iff.1 hI.cf).1).trans hI.cf) 0
      have H4v := Lib.hid ((hbv.block _ (Array.getElem?_eq_some_iff.1 hI.out).1).trans hI.out)
      have H9v := Lib.hid ((hbv.block _ (Array.getElem?_eq_some_iff.1 hI.last).1).trans hI.last)
      have H10v := Lib.hid ((hbv.block _ (Array.getElem?_eq_some_iff.1 hI.n).1).trans hI.n)
      have H5v := Lib.hid ((hbv.block _ (Array.getElem?_eq_some_iff.1 hI.t).1).trans hI.t)
      have H3v := Lib.hid ((hbv.block _ (Array.getElem?_eq_some_iff.1 hI.cf).1).trans hI.cf)
      have p4 := cell_of_heap H4v.out 0
      have f4 := fun o => froz_of_heap H4v.out o
      have f9 := fun o => froz_of_heap H9v.out o
      have f10 := fun o => froz_of_heap H10v.out o
      simp only [List.getElem?_toArray, List.getElem?_cons_zero] at p9 p10 p5 p3 p4
      rw [HLL.out] at p9
      rw [HNN.out] at p10
      have HTV := Lib.hid (hI.tab.below hbv)
      have HBX := Lib.hid (HB.out.trans (hbv.mono HB.out.size))
      have lw : w2.heap.size + 2 < wv.heap.size := cell_lt p10
      clear hI hbv
      by_cases hzi : z < id
      · have HGZ := Lib.hid (HGT.out wv HTV.out z (by omega))
        have HGB := Lib.hid (show (getL ps ns z).2 = true → ¬ preX.map Subtype.val <+: allL ns ps from fun ht hp => by have := (HNX.out hp).2 z (by omega) hzi; rw [ht] at this; cases this)
        generalize ((getL ps ns z).1 : Int) = gv at *
        generalize (getL ps ns z).2 = gb at *
        gi_wp2
        refine ⟨trivial, (CallsIn.inRound l (callsIn_wide.2 HGZ.out)).mono ?_⟩
        rintro e wc ⟨rfl, hbc⟩
        have HBC := Lib.hid hbc
        have H4c := Lib.hid ((hbc.block _ (Array.getElem?_eq_some_iff.1 H4v.out).1).trans H4v.out)
        have r4 := cell_of_heap H4c.out 0
        have rf4 := fun o => froz_of_heap H4c.out o
        simp only [List.getElem?_toArray, List.getElem?_cons_zero] at r4
        have lw4 : w.heap.size + 1 < wc.heap.size := cell_lt r4
        clear p9 p10 p5 p3 p4 f4 f9 f10 hbc
        cases gb with
        | true =>
          gi_wp2
          exact ⟨KeepsOthers.trans (keepsO (HBV.out.trans (HBC.out.mono HBV.out.size))) (KeepsOthers.setCell _ _ _), .inl ⟨rfl, HGB.out (by simp)⟩, (HBX.out.trans (HBC.out.mono HBX.out.size)).setCell (p := ⟨w.heap.size + 1, 0, none⟩) (Nat.le_succ _) _⟩
        | false =>
          gi_wp2
          go_roundw
          case rel => exact ⟨z + 1, by first | rfl | go_num, by omega, by omega, HBV.out.trans (HBC.out.mono HBV.out.size)⟩
          case measure => simp [intOf]; omega
      · obtain rfl : z = id := by omega
        have hb9 : w.heap.size ≤ w2.heap.size + 1 := by omega
        have hb10 : w.heap.size ≤ w2.heap.size + 2 := by omega
        have HKO := Lib.hid (KeepsOthers.trans (keepsO HBV.out) (KeepsOthers.trans (KeepsOthers.setCell wv ⟨w2.heap.size + 1, 0, none⟩ (.int .i64 z)) (KeepsOthers.setCell _ ⟨w2.heap.size + 1 + 1, 0, none⟩ (.int .i64 ((m : Int) + 1)))))
        have HBZ := Lib.hid ((HBX.out.setCell (p := ⟨w2.heap.size + 1, 0, none⟩) hb9 (.int .i64 z)).setCell (p := ⟨w2.heap.size + 1 + 1, 0, none⟩) hb10 (.int .i64 ((m : Int) + 1)))
        have n1 : w.heap.size + 1 ≠ w2.heap.size + 1 := by omega
        have n2 : w.heap.size + 1 ≠ w2.heap.size + 1 + 1 := by omega
        have H4z := Lib.hid ((set_heap_other (o := 0) (.int .i64 ((m : Int) + 1)) n2).trans ((set_heap_other (o := 0) (.int .i64 z) n1).trans H4v.out))
        by_cases hmf : (few : Int) < (m : Int) + 1
        · have db4 : decide ((few : Int) < (m : Int) + 1) = true := by simp; omega
          gi_wp2
          exact ⟨HKO.out, .inr ⟨rfl, H4z.out⟩, HBZ.out⟩
        · have hg1 := set_heap_at (o := 0) (.int .i64 z) H9v.out
          have hg2 := set_heap_other (w := wv) (o := 0) (.int .i64 z) (show w2.heap.size + 1 + 1 ≠ w2.heap.size + 1 by omega)
          have H10z := Lib.hid (show ((wv.setCell ⟨w2.heap.size + 1, 0, none⟩ (.int .i64 z)).setCell ⟨w2.heap.size + 1 + 1, 0, none⟩ (.int .i64 ((m : Int) + 1))).heap[w2.heap.size + 2]? = some (.cells #[.int .i64 ((m + 1 : Nat) : Int)] 3 (0, 0)) from by rw [set_heap_at _ (hg2.trans H10v.out)]; rfl)
          have H9z := Lib.hid (show ((wv.setCell ⟨w2.heap.size + 1, 0, none⟩ (.int .i64 z)).setCell ⟨w2.heap.size + 1 + 1, 0, none⟩ (.int .i64 ((m : Int) + 1))).heap[w2.heap.size + 1]? = some (.cells #[.int .i64 z] 3 (0, 0)) from by rw [set_heap_other _ (by omega), hg1]; rfl)
          have H5z := Lib.hid ((set_heap_other (o := 0) (.int .i64 ((m : Int) + 1)) (show w2.heap.size ≠ w2.heap.size + 1 + 1 by omega)).trans ((set_heap_other (o := 0) (.int .i64 z) (show w2.heap.size ≠ w2.heap.size + 1 by omega)).trans H5v.out))
          have H3z := Lib.hid ((set_heap_other (o := 0) (.int .i64 ((m : Int) + 1)) (show w.heap.size ≠ w2.heap.size + 1 + 1 by omega)).trans ((set_heap_other (o := 0) (.int .i64 z) (show w.heap.size ≠ w2.heap.size + 1 by omega)).trans H3v.out))
          have HTZ := Lib.hid ((HTV.out.setOther (o := 0) H9v.out (by decide) (by decide) (by decide) (.int .i64 z)).setOther (o := 0) (hg2.trans H10v.out) (by decide) (by decide) (by decide) (.int .i64 ((m : Int) + 1)))
          have HKC := Lib.hid (((KeepC.of (B := w.heap.size) (own := fun k t => t = 3 ∧ (k = w2.heap.size + 1 ∨ k = w2.heap.size + 2)) HBV.out (HB.out.size)).set (o := 0) hb9 H9v.out ⟨rfl, .inl rfl⟩ (.int .i64 z)).set (o := 0) hb10 (hg2.trans H10v.out) ⟨rfl, .inr rfl⟩ (.int .i64 ((m : Int) + 1)))
          have HII := Lib.hid (show AllI W3 w1.heap.size g fmt ps ns few w.heap.size (w.heap.size + 1) w2.heap.size (w2.heap.size + 1) (w2.heap.size + 2) (preX.map Subtype.val) ((wv.setCell ⟨w2.heap.size + 1, 0, none⟩ (.int .i64 z)).setCell ⟨w2.heap.size + 1 + 1, 0, none⟩ (.int .i64 ((m : Int) + 1))) from
            ⟨by rw [HL9.out]; exact H9z.out, by rw [HLN.out]; exact H10z.out, H5z.out, H3z.out, H4z.out, HTZ.out, by rw [HLN.out]; omega, by rw [HL9.out]; omega⟩)
          have db4 : decide ((few : Int) < (m : Int) + 1) = false := by simp; omega
          clear hg1 hg2
          gi_wp2
          rw [← hW3]
          exact ⟨HKO.out, HKC.out, HII.out, HBZ.out⟩
  case done =>
    rintro D ys W hD hys ⟨hI, hB⟩ hK
    have p4 := cell_of_heap hI.out 0
    have f4 := fun o => froz_of_heap hI.out o
    simp only [List.getElem?_toArray, List.getElem?_cons_zero] at p4
    have hl4 := cell_lt p4
    simp only at hl4
    have H4 := Lib.hid hI.out
    have HB := Lib.hid hB
    have HK := Lib.hid hK
    clear hI hB hK
    gi_wp2
    have hK' := (KeepsOthers.setCell W ⟨w.heap.size + 1, 0, none⟩ (.bool true)).same D _ HK.out rfl
    refine ⟨by simp, .inl ⟨_, _, rfl, run_takeDeferred hK', ?_⟩⟩
    have hc5 := cell_kept (World.cell?_setCell_same' W ⟨w.heap.size + 1, 0, none⟩ (.bool true) (by rw [p4]; rfl)) (grownBy_putObj' _ D (.deferred none)) (fun r e => by cases e; exact ⟨_, hK', rfl⟩)
    refine ⟨.bool true, by simp [results, Try.f3, go_sem, hc5], rfl, ?_⟩
    exact (HB.out.setCell (p := ⟨w.heap.size + 1, 0, none⟩) (Nat.le_succ _) _).trans (belowK_b (w := w) (Nat.le_refl _) _ D _ _ (by omega) hK' rfl rfl)
  case stop =>
    rintro D c pre W hD hpre ⟨hx, hB⟩ hK
    rcases hx with ⟨_, hx⟩ | ⟨rfl, h4⟩
    · exact absurd hpre hx
    have p4 := cell_of_heap h4 0
    have f4 := fun o => froz_of_heap h4 o
    simp only [List.getElem?_toArray, List.getElem?_cons_zero] at p4
    have hl4 := cell_lt p4
    simp only at hl4
    have H4 := Lib.hid h4
    have HB := Lib.hid hB
    have HK := Lib.hid hK
    clear h4 hB hK
    gi_wp2
    have hK' := (KeepsOthers.setCell W ⟨w.heap.size + 1, 0, none⟩ (.bool true)).same D _ HK.out rfl
    refine ⟨by simp, .inl ⟨_, _, rfl, run_takeDeferred hK', ?_⟩⟩
    have hc5 := cell_kept (World.cell?_setCell_same' W ⟨w.heap.size + 1, 0, none⟩ (.bool true) (by rw [p4]; rfl)) (grownBy_putObj' _ D (.deferred none)) (fun r e => by cases e; exact ⟨_, hK', rfl⟩)
    refine ⟨.bool true, by simp [results, Try.f3, go_sem, hc5], rfl, ?_⟩
    exact (HB.out.setCell (p := ⟨w.heap.size + 1, 0, none⟩) (Nat.le_succ _) _).trans (belowK_b (w := w) (Nat.le_refl _) _ D _ _ (by omega) hK' rfl rfl)
end Go.Proofs.Ytajhljgcbafbcaa
