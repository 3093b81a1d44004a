
/- The walk of WholeGrows. WholeGrows returns true for every text, and changes nothing: a line that one subtable of layer 18 doubles and one of layer 17 joins again is as it was, once it is cleaned. No condition beside the row's own. -/
import Derived.Test.YtlgkikmmpnnnfaaJ01
import Derived.Test.YtlgkikmmpnnnfaaJ17
import Derived.Test.YtlgkikmmpnnnfaaJ25
import Derived.Test.YtlgkikmmpnnnfaaJ26
import Derived.Test.YtlgkikmmpnnnfaaJ22
import Derived.Test.YtlgkikmmpnnnfaaJ04
import Derived.Test.YtlgkikmmpnnnfaaJ15
namespace Go.Proofs.Ytlgkikmmpnnnfaa
open Go.RowKit Go.Lib

theorem planG_wf : ∀ e ∈ planG.ents, wfI e.1 ∧ wfI e.2.1 ∧ wfI e.2.2.1 ∧ wfI e.2.2.2 := by
  intro e he
  simp only [planG, List.mem_cons, List.not_mem_nil, or_false] at he
  rcases he with rfl | rfl <;> · unfold wfI; decide
theorem planT_wf : ∀ e ∈ planT.ents, wfI e.1 ∧ wfI e.2.1 ∧ wfI e.2.2.1 ∧ wfI e.2.2.2 := by
  intro e he
  simp only [planT, List.mem_cons, List.not_mem_nil, or_false] at he
  rcases he with rfl | rfl | rfl <;> · unfold wfI; decide
def compsT : List Nat := [0, 1, 2, 3, 4, 5, 6, 7, 8, 0]
def ligsT : List Nat := [0, 1, 2, 3, 4, 5, 6, 7, 8, 9]
theorem info_u16w : (Try.prog.info? 87).map (fun i => (i.zero, i.size, i.bytes)) = some (some (.int .u16 0), 1, 2) := by kernel_rfl
theorem compsT_snoc (j : Nat) (h : j < 10) : u16V (compsT.take j) ++ u16V [j % 9] = u16V (compsT.take (j + 1)) := by
  have : ∀ j : Fin 10, compsT.take j.val ++ [j.val % 9] = compsT.take (j.val + 1) := by decide
  rw [← this ⟨j, h⟩]; simp [u16V]
theorem ligsT_snoc (j : Nat) (h : j < 10) : u16V (ligsT.take j) ++ u16V [j] = u16V (ligsT.take (j + 1)) := by
  have : ∀ j : Fin 10, ligsT.take j.val ++ [j.val] = ligsT.take (j.val + 1) := by decide
  rw [← this ⟨j, h⟩]; simp [u16V]
theorem writeG (aR aE aL : Option Addr) (rv : List Value) (cC cR cE cL : Nat) (w : World) (h : PlanHas w planG none aR rv aE) (hL : Has w aL (u16V [9])) :
    Calls Try.prog 33 #[.agg #[.slice none 0 cC, .slice aR 2 cR, .slice aE 2 cE, .int .u8 0, .slice aL 1 cL]] w fun e w' => ∃ a' c', e = .returned (.slice a' 60 c') ∧ w'.ownsRow w.heap.size 5 1 (.slice a' 60 c') 60 (bytesV putG) ∧ Below w.heap.size w w' := by
  have := write18_any planG none aR aE rv cC cR cE aL 1 cL [9] w h (by decide) (by decide) (by decide) planG_wf hL rfl (by decide) (by decide)
  rw [show insB planG [9] = putG from rfl, putG_nums.1] at this
  refine this.mono ?_
  rintro e w' ⟨a', c', h1, h2, _, _, _, h6⟩
  exact ⟨a', c', h1, h2, h6⟩
theorem writeT (aC aR aE aA aK aL : Option Addr) (rv : List Value) (cC cR cE cA cK cL : Nat) (w : World) (h : PlanHas w planT aC aR rv aE) (hA : Has w aA (u32V [0, 2147483648])) (hK : Has w aK (u16V compsT)) (hL : Has w aL (u16V ligsT)) :
    Calls Try.prog 24 #[.agg #[.slice aC 10 cC, .slice aR 2 cR, .slice aE 3 cE, .int .u8 2, .slice aA 2 cA, .slice aK 10 cK, .slice aL 10 cL]] w fun e w' => ∃ a' c', e = .returned (.slice a' 144 c') ∧ w'.ownsRow w.heap.size 5 1 (.slice a' 144 c') 144 (bytesV takeT) ∧ Below w.heap.size w w' := by
  have := write17_any planT aC aR aE rv cC cR cE aA aK aL 2 cA 10 cK 10 cL [0, 2147483648] compsT ligsT w h (by decide) (by decide) (by decide) planT_wf hA rfl (by decide) (by decide) hK rfl (by decide) (by decide) hL rfl (by decide) (by decide)
  rw [show ligB planT [0, 2147483648] compsT ligsT = takeT from rfl, takeT_nums.1] at this
  refine this.mono ?_
  rintro e w' ⟨a', c', h1, h2, _, _, _, h6⟩
  exact ⟨a', c', h1, h2, h6⟩
def tW (xs : List UInt8) (k : Nat) : Int := (((xs.getD k 0).toNat % 9 : Nat) : Int)
def idsW (xs : List UInt8) : List Int := (List.range xs.length).map (tW xs)
theorem idsW_length (xs : List UInt8) : (idsW xs).length = xs.length := by simp [idsW]
theorem tW_lt (xs : List UInt8) (k : Nat) : 0 ≤ tW xs k ∧ tW xs k < 9 := by unfold tW; omega
theorem idsW_get (xs : List UInt8) (j : Nat) (h : j < xs.length) : (idsW xs)[j]? = some (tW xs j) := by simp [idsW, h]
theorem idsW_wide (xs : List UInt8) : ∀ z ∈ idsW xs, -9223372036854775808 ≤ z ∧ z ≤ 9223372036854775807 := by
  intro z hz
  obtain ⟨k, _, rfl⟩ := List.mem_map.1 hz
  have := tW_lt xs k
  omega
theorem idsW_snoc (xs : List UInt8) (j : Nat) (h : j < xs.length) : (idsW xs).take j ++ [(((xs.getD j 0).toNat % 9 : Nat) : Int)] = (idsW xs).take (j + 1) := by
  rw [List.take_add_one, idsW_get xs j h]
  rfl
theorem newG_W (xs : List UInt8) : newG (idsW xs) = (List.range xs.length).map fun k => (tW xs k, ((k : Nat) : Int)) := by
  apply List.ext_getElem?
  intro j
  rw [newG_get]
  by_cases h : j < xs.length
  · rw [idsW_get xs j h]; simp [h]
  · rw [List.getElem?_eq_none (by rw [idsW_length]; omega), List.getElem?_eq_none (by simp; omega)]; rfl
set_option maxRecDepth 100000 in
set_option maxHeartbeats 25600000 in
theorem wholeGrows_walk (aX : Option Addr) (nX cX : Nat) (xs : List UInt8) (w : World) (hX : Has w aX (bytesV xs)) (hxl : xs.length = nX) :
    Calls Try.prog 13 #[.slice aX nX cX] w fun e w' => e = .returned (.bool true) ∧ Below w.heap.size w w' := by
  have hAC := allocC
  have hAF := allocF
  have HX := Lib.hid hX
  have HXL := Lib.hid hxl
  clear hX hxl
  go_enter Try.func13, Try.ntmps13
  go_wp2_with fail
  obtain ⟨vg1, hvg1⟩ : ∃ u, u = w.alloc (Obj.cells #[.int .u8 1, .int .u8 0] 5) := ⟨_, rfl⟩
  obtain ⟨vg2, hvg2⟩ : ∃ u, u = vg1.alloc (Obj.cells #[.int .u8 1, .int .u8 0] 5) := ⟨_, rfl⟩
  obtain ⟨vg3, hvg3⟩ : ∃ u, u = vg2.alloc (Obj.cells #[.slice (some ⟨w.heap.size, 0, none⟩) 2 2, .slice (some ⟨w.heap.size + 1, 0, none⟩) 2 2] 22) := ⟨_, rfl⟩
  obtain ⟨vg4, hvg4⟩ : ∃ u, u = vg3.alloc (Obj.cells #[.int .i64 0, .int .i64 32, .int .i64 0, .int .i64 65535, .int .i64 0, .int .i64 0, .int .i64 65535, .int .i64 65535] 64) := ⟨_, rfl⟩
  obtain ⟨vg5, hvg5⟩ : ∃ u, u = vg4.alloc (Obj.cells #[.int .u16 9] 87) := ⟨_, rfl⟩
  obtain ⟨vg6, hvg6⟩ : ∃ u, u = vg5.alloc (Obj.cells #[.slice none 0 0, .slice (some ⟨w.heap.size + 1 + 1, 0, none⟩) 2 2, .slice (some ⟨w.heap.size + 1 + 1 + 1, 0, none⟩) 2 2, .int .u8 0, .slice (some ⟨w.heap.size + 1 + 1 + 1 + 1, 0, none⟩) 1 1] 73) := ⟨_, rfl⟩
  have zvg1 : vg1.heap.size = w.heap.size + 1 := by rw [hvg1, World.size_alloc]
  have bvg1 : Below w.heap.size w vg1 := by rw [hvg1]; exact balloc (brefl w) _
  have zvg2 : vg2.heap.size = w.heap.size + 1 + 1 := by rw [hvg2, World.size_alloc, zvg1]
  have bvg2 : Below vg1.heap.size vg1 vg2 := by rw [hvg2]; exact balloc (brefl vg1) _
  have zvg3 : vg3.heap.size = w.heap.size + 1 + 1 + 1 := by rw [hvg3, World.size_alloc, zvg2]
  have bvg3 : Below vg2.heap.size vg2 vg3 := by rw [hvg3]; exact balloc (brefl vg2) _
  have zvg4 : vg4.heap.size = w.heap.size + 1 + 1 + 1 + 1 := by rw [hvg4, World.size_alloc, zvg3]
  have bvg4 : Below vg3.heap.size vg3 vg4 := by rw [hvg4]; exact balloc (brefl vg3) _
  have zvg5 : vg5.heap.size = w.heap.size + 1 + 1 + 1 + 1 + 1 := by rw [hvg5, World.size_alloc, zvg4]
  have bvg5 : Below vg4.heap.size vg4 vg5 := by rw [hvg5]; exact balloc (brefl vg4) _
  have zvg6 : vg6.heap.size = w.heap.size + 1 + 1 + 1 + 1 + 1 + 1 := by rw [hvg6, World.size_alloc, zvg5]
  have bvg6 : Below vg5.heap.size vg5 vg6 := by rw [hvg6]; exact balloc (brefl vg5) _
  have tvg6 := brefl vg6
  have tvg5 := bthen bvg6 tvg6
  have tvg4 := bthen bvg5 tvg5
  have tvg3 := bthen bvg4 tvg4
  have tvg2 := bthen bvg3 tvg3
  have tvg1 := bthen bvg2 tvg2
  have tvg0 := bthen bvg1 tvg1
  have gvg1 := has_alloc w #[.int .u8 1, .int .u8 0] 5
  rw [← hvg1] at gvg1
  have gvg2 := has_alloc vg1 #[.int .u8 1, .int .u8 0] 5
  rw [← hvg2, zvg1] at gvg2
  have gvg3 := has_alloc vg2 #[.slice (some ⟨w.heap.size, 0, none⟩) 2 2, .slice (some ⟨w.heap.size + 1, 0, none⟩) 2 2] 22
  rw [← hvg3, zvg2] at gvg3
  have gvg4 := has_alloc vg3 #[.int .i64 0, .int .i64 32, .int .i64 0, .int .i64 65535, .int .i64 0, .int .i64 0, .int .i64 65535, .int .i64 65535] 64
  rw [← hvg4, zvg3] at gvg4
  have gvg5 := has_alloc vg4 #[.int .u16 9] 87
  rw [← hvg5, zvg4] at gvg5
  have gvg6 := has_alloc vg5 #[.slice none 0 0, .slice (some ⟨w.heap.size + 1 + 1, 0, none⟩) 2 2, .slice (some ⟨w.heap.size + 1 + 1 + 1, 0, none⟩) 2 2, .int .u8 0, .slice (some ⟨w.heap.size + 1 + 1 + 1 + 1, 0, none⟩) 1 1] 73
  rw [← hvg6, zvg5] at gvg6
  have HP := Lib.hid (show PlanHas vg6 planG none (some ⟨w.heap.size + 1 + 1, 0, none⟩) [.slice (some ⟨w.heap.size, 0, none⟩) 2 2, .slice (some ⟨w.heap.size + 1, 0, none⟩) 2 2] (some ⟨w.heap.size + 1 + 1 + 1, 0, none⟩) from ⟨Has.nil _ _, gvg3.below tvg3, rfl, fun i r hr => by
    match i, hr with
    | 0, hr => simp [planG] at hr; subst hr; exact ⟨_, 2, rfl, gvg1.below tvg1⟩
    | 1, hr => simp [planG] at hr; subst hr; exact ⟨_, 2, rfl, gvg2.below tvg2⟩
    | n + 2, hr => simp [planG] at hr, gvg4.below tvg4⟩)
  have HLS := Lib.hid (show Has vg6 (some ⟨w.heap.size + 1 + 1 + 1 + 1, 0, none⟩) (u16V [9]) from gvg5.below tvg5)
  have HB6 := Lib.hid tvg0
  rw [← hvg1, ← hvg2, ← hvg3, ← hvg4, ← hvg5, ← hvg6]
  clear hvg1 hvg2 hvg3 hvg4 hvg5 hvg6 tvg0 tvg1 tvg2 tvg3 tvg4 tvg5 tvg6 bvg1 bvg2 bvg3 bvg4 bvg5 bvg6 gvg1 gvg2 gvg3 gvg4 gvg5 gvg6
  refine (writeG (some ⟨w.heap.size + 1 + 1, 0, none⟩) (some ⟨w.heap.size + 1 + 1 + 1, 0, none⟩) (some ⟨w.heap.size + 1 + 1 + 1 + 1, 0, none⟩) [.slice (some ⟨w.heap.size, 0, none⟩) 2 2, .slice (some ⟨w.heap.size + 1, 0, none⟩) 2 2] 0 2 2 1 vg6 HP.out HLS.out).mono ?_
  rintro e w9 ⟨a9, c9, rfl, ho9, hb9⟩
  have HH9 := Lib.hid (has_of_owns ho9)
  have HB9 := Lib.hid (HB6.out.trans (hb9.mono HB6.out.size))
  clear ho9 hb9 zvg1 zvg2 zvg3 zvg4 zvg5 zvg6
  go_wp2_with (go_at_call 32; (with_reducible refine (iread_some a9 60 c9 putG 20 20 rfl [] 2 w9 HH9.out putG_nums.1 (by decide) (by decide) (by decide) (putG_ok 20)).mono ?_); rintro e wA ⟨gi, rfl, hT, hb10⟩; have HTI := Lib.hid hT; have HBA := Lib.hid (HB9.out.trans (hb10.mono HB9.out.size)); clear hT hb10)
  obtain ⟨vt1, hvt1⟩ : ∃ u, u = wA.alloc (Obj.cells #[.int .u8 4, .int .u8 4, .int .u8 4, .int .u8 4, .int .u8 4, .int .u8 4, .int .u8 4, .int .u8 4, .int .u8 4, .int .u8 5] 5) := ⟨_, rfl⟩
  obtain ⟨vt2, hvt2⟩ : ∃ u, u = vt1.alloc (Obj.cells #[.int .u8 0, .int .u8 0, .int .u8 0, .int .u8 0, .int .u8 1, .int .u8 2] 5) := ⟨_, rfl⟩
  obtain ⟨vt3, hvt3⟩ : ∃ u, u = vt2.alloc (Obj.cells #[.int .u8 0, .int .u8 0, .int .u8 0, .int .u8 0, .int .u8 1, .int .u8 2] 5) := ⟨_, rfl⟩
  obtain ⟨vt4, hvt4⟩ : ∃ u, u = vt3.alloc (Obj.cells #[.slice (some ⟨wA.heap.size + 1, 0, none⟩) 6 6, .slice (some ⟨wA.heap.size + 1 + 1, 0, none⟩) 6 6] 22) := ⟨_, rfl⟩
  obtain ⟨vt5, hvt5⟩ : ∃ u, u = vt4.alloc (Obj.cells #[.int .i64 0, .int .i64 0, .int .i64 0, .int .i64 0, .int .i64 0, .int .i64 32768, .int .i64 0, .int .i64 0, .int .i64 0, .int .i64 40960, .int .i64 0, .int .i64 0] 64) := ⟨_, rfl⟩
  obtain ⟨vt6, hvt6⟩ : ∃ u, u = vt5.alloc (Obj.cells #[.int .u32 0, .int .u32 2147483648] 61) := ⟨_, rfl⟩
  have zvt1 : vt1.heap.size = wA.heap.size + 1 := by rw [hvt1, World.size_alloc]
  have bvt1 : Below wA.heap.size wA vt1 := by rw [hvt1]; exact balloc (brefl wA) _
  have zvt2 : vt2.heap.size = wA.heap.size + 1 + 1 := by rw [hvt2, World.size_alloc, zvt1]
  have bvt2 : Below vt1.heap.size vt1 vt2 := by rw [hvt2]; exact balloc (brefl vt1) _
  have zvt3 : vt3.heap.size = wA.heap.size + 1 + 1 + 1 := by rw [hvt3, World.size_alloc, zvt2]
  have bvt3 : Below vt2.heap.size vt2 vt3 := by rw [hvt3]; exact balloc (brefl vt2) _
  have zvt4 : vt4.heap.size = wA.heap.size + 1 + 1 + 1 + 1 := by rw [hvt4, World.size_alloc, zvt3]
  have bvt4 : Below vt3.heap.size vt3 vt4 := by rw [hvt4]; exact balloc (brefl vt3) _
  have zvt5 : vt5.heap.size = wA.heap.size + 1 + 1 + 1 + 1 + 1 := by rw [hvt5, World.size_alloc, zvt4]
  have bvt5 : Below vt4.heap.size vt4 vt5 := by rw [hvt5]; exact balloc (brefl vt4) _
  have zvt6 : vt6.heap.size = wA.heap.size + 1 + 1 + 1 + 1 + 1 + 1 := by rw [hvt6, World.size_alloc, zvt5]
  have bvt6 : Below vt5.heap.size vt5 vt6 := by rw [hvt6]; exact balloc (brefl vt5) _
  have tvt6 := brefl vt6
  have tvt5 := bthen bvt6 tvt6
  have tvt4 := bthen bvt5 tvt5
  have tvt3 := bthen bvt4 tvt4
  have tvt2 := bthen bvt3 tvt3
  have tvt1 := bthen bvt2 tvt2
  have tvt0 := bthen bvt1 tvt1
  have gvt1 := has_alloc wA #[.int .u8 4, .int .u8 4, .int .u8 4, .int .u8 4, .int .u8 4, .int .u8 4, .int .u8 4, .int .u8 4, .int .u8 4, .int .u8 5] 5
  rw [← hvt1] at gvt1
  have gvt2 := has_alloc vt1 #[.int .u8 0, .int .u8 0, .int .u8 0, .int .u8 0, .int .u8 1, .int .u8 2] 5
  rw [← hvt2, zvt1] at gvt2
  have gvt3 := has_alloc vt2 #[.int .u8 0, .int .u8 0, .int .u8 0, .int .u8 0, .int .u8 1, .int .u8 2] 5
  rw [← hvt3, zvt2] at gvt3
  have gvt4 := has_alloc vt3 #[.slice (some ⟨wA.heap.size + 1, 0, none⟩) 6 6, .slice (some ⟨wA.heap.size + 1 + 1, 0, none⟩) 6 6] 22
  rw [← hvt4, zvt3] at gvt4
  have gvt5 := has_alloc vt4 #[.int .i64 0, .int .i64 0, .int .i64 0, .int .i64 0, .int .i64 0, .int .i64 32768, .int .i64 0, .int .i64 0, .int .i64 0, .int .i64 40960, .int .i64 0, .int .i64 0] 64
  rw [← hvt5, zvt4] at gvt5
  have gvt6 := has_alloc vt5 #[.int .u32 0, .int .u32 2147483648] 61
  rw [← hvt6, zvt5] at gvt6
  have HP := Lib.hid (show PlanHas vt6 planT (some ⟨wA.heap.size, 0, none⟩) (some ⟨wA.heap.size + 1 + 1 + 1, 0, none⟩) [.slice (some ⟨wA.heap.size + 1, 0, none⟩) 6 6, .slice (some ⟨wA.heap.size + 1 + 1, 0, none⟩) 6 6] (some ⟨wA.heap.size + 1 + 1 + 1 + 1, 0, none⟩) from ⟨gvt1.below tvt1, gvt4.below tvt4, rfl, fun i r hr => by
    match i, hr with
    | 0, hr => simp [planT] at hr; subst hr; exact ⟨_, 6, rfl, gvt2.below tvt2⟩
    | 1, hr => simp [planT] at hr; subst hr; exact ⟨_, 6, rfl, gvt3.below tvt3⟩
    | n + 2, hr => simp [planT] at hr, gvt5.below tvt5⟩)
  have HAA := Lib.hid (show Has vt6 (some ⟨wA.heap.size + 1 + 1 + 1 + 1 + 1, 0, none⟩) (u32V [0, 2147483648]) from gvt6.below tvt6)
  have HB7 := Lib.hid tvt0
  obtain ⟨X, hX⟩ : ∃ X, X = vt6.alloc (Obj.cells #[.slice (some ⟨wA.heap.size, 0, none⟩) 10 10, .slice (some ⟨wA.heap.size + 1 + 1 + 1, 0, none⟩) 2 2, .slice (some ⟨wA.heap.size + 1 + 1 + 1 + 1, 0, none⟩) 3 3, .int .u8 2, .slice (some ⟨wA.heap.size + 1 + 1 + 1 + 1 + 1, 0, none⟩) 2 2, .slice none 0 0, .slice none 0 0] 55) := ⟨_, rfl⟩
  have zX := (show X.heap[vt6.heap.size]? = some (.cells #[.slice (some ⟨wA.heap.size, 0, none⟩) 10 10, .slice (some ⟨wA.heap.size + 1 + 1 + 1, 0, none⟩) 2 2, .slice (some ⟨wA.heap.size + 1 + 1 + 1 + 1, 0, none⟩) 3 3, .int .u8 2, .slice (some ⟨wA.heap.size + 1 + 1 + 1 + 1 + 1, 0, none⟩) 2 2, .slice none 0 0, .slice none 0 0] 55 (0, 0)) from by rw [hX]; exact (heap_push _ _ _).trans (if_pos rfl))
  have HS7 := Lib.hid (show X.heap.size = vt6.heap.size + 1 from by rw [hX, World.size_alloc])
  have HBX := Lib.hid (show Below vt6.heap.size vt6 X from by rw [hX]; exact balloc (brefl vt6) _)
  rw [← hvt1, ← hvt2, ← hvt3, ← hvt4, ← hvt5, ← hvt6, ← hX, ← zvt6]
  clear hX hvt1 hvt2 hvt3 hvt4 hvt5 hvt6 tvt0 tvt1 tvt2 tvt3 tvt4 tvt5 tvt6 bvt1 bvt2 bvt3 bvt4 bvt5 bvt6 gvt1 gvt2 gvt3 gvt4 gvt5 gvt6
  clear zvt1 zvt2 zvt3 zvt4 zvt5 zvt6
  obtain ⟨gP, hgP⟩ : ∃ gP, gP = vt6.heap.size := ⟨_, rfl⟩
  have HGP := Lib.hid hgP
  rw [← hgP] at zX HS7 ⊢
  have ZX0 := Lib.hid zX
  clear zX hgP
  go_loopw [44] (fun i wr => ∃ (j : Nat) (a5 : Option Addr) (c5 : Nat) (a6 : Option Addr) (c6 : Nat), j ≤ 10 ∧ i = .int .i64 (j : Nat) ∧ wr.heap[gP]? = some (.cells #[.slice (some ⟨wA.heap.size, 0, none⟩) 10 10, .slice (some ⟨wA.heap.size + 1 + 1 + 1, 0, none⟩) 2 2, .slice (some ⟨wA.heap.size + 1 + 1 + 1 + 1, 0, none⟩) 3 3, .int .u8 2, .slice (some ⟨wA.heap.size + 1 + 1 + 1 + 1 + 1, 0, none⟩) 2 2, .slice a5 j c5, .slice a6 j c6] 55 (0, 0)) ∧ wr.ownsRow (gP + 1) 87 1 (.slice a5 j c5) j (u16V (compsT.take j)) ∧ wr.ownsRow (gP + 1) 87 1 (.slice a6 j c6) j (u16V (ligsT.take j)) ∧ FarA a5 a6 ∧ Below vt6.heap.size vt6 wr) (fun i _ => 10 - (Go.RowKit.intOf i).toNat)
  case atStart => exact ⟨0, none, 0, none, 0, Nat.zero_le _, rfl, ZX0.out, World.ownsRow_nil _ _ _ _, World.ownsRow_nil _ _ _ _, (fun p q h1 h2 => by cases h1), HBX.out⟩
  case round =>
    obtain ⟨j, a5, c5, a6, c6, hj, rfl, hz, ho5, ho6, hfar, hb⟩ := hrel
    rename World => wr
    have ZR := Lib.hid hz
    have HO5 := Lib.hid ho5
    have HO6 := Lib.hid ho6
    have HFAR := Lib.hid hfar
    have HB := Lib.hid hb
    have lP := (Array.getElem?_eq_some_iff.1 hz).1
    have qP := fun o => cell_of_heap hz o
    have fP := fun o => froz_of_heap hz o
    clear hz ho5 ho6 hfar hb
    by_cases hlt : j < 10
    · have f1 : (j : Int).tmod 9 = ((j % 9 : Nat) : Int) := by rw [Int.tmod_eq_emod_of_nonneg (by omega)]; omega
      have f2 : IntKind.i64.wrap ((j % 9 : Nat) : Int) = ((j % 9 : Nat) : Int) := IntWalk.i64_in _ (by omega)
      have f3 : IntKind.u16.wrap ((j % 9 : Nat) : Int) = ((j % 9 : Nat) : Int) := by simp [IntKind.wrap, IntKind.signed, IntKind.bits]; omega
      have f4 : IntKind.u16.wrap (j : Int) = (j : Int) := by simp [IntKind.wrap, IntKind.signed, IntKind.bits]; omega
      have HC := Lib.hid (compsT_snoc j hlt)
      have HL := Lib.hid (ligsT_snoc j hlt)
      generalize j % 9 = jr at *
      go_wp2_with (first
        | (at_builtin; refine wpAppF rfl _ _ 53 rfl (gP + 1) 87 (.int .u16 0) 1 2 Try.underlying53 info_u16w rfl (by decide) a5 j c5 (u16V (compsT.take j)) rfl (owns_below HO5.out (balloc (brefl wr) _) (Nat.le_refl _)) ⟨wr.heap.size, 0, none⟩ 1 1 (by decide) (u16V [jr]) rfl (by rfl) (has_alloc wr _ _) (by intro u hu; simp [u16V] at hu; subst hu; rfl) (by unfold maxLen; omega) (by omega) (by simp; omega) ?_
           intro a8 c8 w8 ho8 k81 k82 k83 hb8 hg8 hf8
           have hp := PutFar.grown hg8 hf8
           have h6a := owns_below HO6.out (balloc (brefl wr) (.cells #[.int .u16 (jr : Nat)] 87)) (Nat.le_refl _)
           have z8 := (hb8.block gP (by omega)).trans (((balloc (brefl wr) (.cells #[.int .u16 (jr : Nat)] 87)).block gP lP).trans ZR.out)
           have Z8 := Lib.hid z8
           have HO8 := Lib.hid (set_owns (g := gP) (o := 5) (.slice a8 (j + 1) c8) ho8 (own_neE ho8 z8 (by decide)))
           have h68 := owns_far h6a hp HFAR.out
           have HO68 := Lib.hid (set_owns (g := gP) (o := 5) (.slice a8 (j + 1) c8) h68 (own_neE h68 z8 (by decide)))
           have HF8 := Lib.hid (far_put hp HFAR.out (fun q hq => (owns_lt h6a q hq).2))
           have zX8 := set_heap_at (o := 5) (.slice a8 (j + 1) c8) z8
           have ZX8 := Lib.hid zX8
           have HBX8 := Lib.hid ((HB.out.trans (((balloc (brefl wr) (.cells #[.int .u16 (jr : Nat)] 87)).mono (by rw [← HGP.out]; omega)).trans (hb8.mono (by rw [← HGP.out]; omega)))).setCell (p := ⟨gP, 5, none⟩) (by rw [HGP.out]; exact Nat.le_refl _) (.slice a8 (j + 1) c8))
           clear qP fP
           have q8 := fun o => cell_of_heap z8 o
           have f8 := fun o => froz_of_heap z8 o
           have l8 := (Array.getElem?_eq_some_iff.1 z8).1
           have qX8 := fun o => cell_of_heap zX8 o
           have fX8 := fun o => froz_of_heap zX8 o
           clear ho8 hb8 hg8 hf8 hp h6a z8 h68 zX8)
        | (at_builtin; refine wpAppF rfl _ _ 53 rfl (gP + 1) 87 (.int .u16 0) 1 2 Try.underlying53 info_u16w rfl (by decide) a6 j c6 (u16V (ligsT.take j)) rfl (owns_below HO68.out (balloc (brefl _) _) (Nat.le_refl _)) ⟨_, 0, none⟩ 1 1 (by decide) (u16V [j]) rfl (by rfl) (by first | exact has_alloc _ _ _ | (have := has_alloc (w8.setCell ⟨gP, 5, none⟩ (.slice a8 (j + 1) c8)) #[.int .u16 (j : Nat)] 87; rw [World.size_setCell] at this; exact this)) (by intro u hu; simp [u16V] at hu; subst hu; rfl) (by unfold maxLen; omega) (by omega) (by simp; omega) ?_
           intro a9 c9 w9 ho9 k91 k92 k93 hb9 hg9 hf9
           have hp := PutFar.grown hg9 hf9
           have h5a := owns_below HO8.out (balloc (brefl _) (.cells #[.int .u16 (j : Nat)] 87)) (Nat.le_refl _)
           have z9 := (hb9.block gP (by omega)).trans (((balloc (brefl _) (.cells #[.int .u16 (j : Nat)] 87)).block gP (by simp; omega)).trans ZX8.out)
           have h59 := owns_far h5a hp (far_symm HF8.out)
           have HO59 := Lib.hid (set_owns (g := gP) (o := 6) (.slice a9 (j + 1) c9) h59 (own_neE h59 z9 (by decide)))
           have HO9 := Lib.hid (set_owns (g := gP) (o := 6) (.slice a9 (j + 1) c9) ho9 (own_neE ho9 z9 (by decide)))
           have HF9 := Lib.hid (far_symm (far_put hp (far_symm HF8.out) (fun q hq => (owns_lt h5a q hq).2)))
           have ZX9 := Lib.hid (set_heap_at (o := 6) (.slice a9 (j + 1) c9) z9)
           have HBX9 := Lib.hid ((HBX8.out.trans (((balloc (brefl _) (.cells #[.int .u16 (j : Nat)] 87)).mono (by rw [← HGP.out]; simp; omega)).trans (hb9.mono (by rw [← HGP.out]; omega)))).setCell (p := ⟨gP, 6, none⟩) (by rw [HGP.out]; exact Nat.le_refl _) (.slice a9 (j + 1) c9))
           have q9 := fun o => cell_of_heap z9 o
           have f9 := fun o => froz_of_heap z9 o
           have l9 := (Array.getElem?_eq_some_iff.1 z9).1
           clear ho9 hb9 hg9 hf9 hp h5a h59 z9))
      go_roundw
      case rel =>
        refine ⟨j + 1, a8, c8, a9, c9, hlt, by go_num, ZX9.out, ?_, ?_, HF9.out, HBX9.out⟩
        · rw [← HC.out]; exact HO59.out
        · rw [← HL.out]; exact HO9.out
      case measure => simp [Go.RowKit.intOf]; omega
    · obtain rfl : 10 = j := by omega
      clear hlt hj qP fP
      have HK := Lib.hid (show Has wr a5 (u16V compsT) from has_of_owns HO5.out)
      have HLG := Lib.hid (show Has wr a6 (u16V ligsT) from has_of_owns HO6.out)
      have qP := fun o => cell_of_heap ZR.out o
      have HBW := Lib.hid (HBA.out.trans ((HB7.out.trans (HB.out.mono HB7.out.size)).mono HBA.out.size))
      have HAW := Lib.hid (show Below wA.heap.size wA wr from HB7.out.trans (HB.out.mono HB7.out.size))
      have HWT := Lib.hid (writeT (some ⟨wA.heap.size, 0, none⟩) (some ⟨wA.heap.size + 1 + 1 + 1, 0, none⟩) (some ⟨wA.heap.size + 1 + 1 + 1 + 1, 0, none⟩) (some ⟨wA.heap.size + 1 + 1 + 1 + 1 + 1, 0, none⟩) a5 a6 [.slice (some ⟨wA.heap.size + 1, 0, none⟩) 6 6, .slice (some ⟨wA.heap.size + 1 + 1, 0, none⟩) 6 6] 10 2 3 2 c5 c6 wr (HP.out.below HB.out) (HAA.out.below HB.out) HK.out HLG.out)
      clear HO5 HO6 HFAR
      by_cases hbig : 60 < nX
      · have d1 : decide (60 < (nX : Int)) = true := by simp; omega
        go_wp2_with (first
          | (go_at_call 24; (with_reducible refine HWT.out.mono ?_); rintro e wC ⟨a7, c7, rfl, ho, hb⟩; have HHC := Lib.hid (has_of_owns ho); have HBC := Lib.hid (HBW.out.trans (hb.mono HBW.out.size)); clear ho hb)
          | (go_at_call 15; (with_reducible refine (jread_some a7 144 c7 takeT 20 20 rfl rsT 2 wC HHC.out takeT_nums.1 (by decide) (by decide) (by decide) (takeT_ok 20)).mono ?_); rintro e wD ⟨gj, rfl, hT, hb⟩; have HBD := Lib.hid (HBC.out.trans (hb.mono HBC.out.size)); clear hT hb))
        go_ret
        exact ⟨rfl, HBD.out⟩
      have d1 : decide (60 < (nX : Int)) = false := by simp; omega
      have hn60 : nX ≤ 60 := by omega
      go_wp2_with (first
        | (go_at_call 24; (with_reducible refine HWT.out.mono ?_); rintro e wC ⟨a7, c7, rfl, ho, hb⟩; have HHC := Lib.hid (has_of_owns ho); have HBC := Lib.hid (HBW.out.trans (hb.mono HBW.out.size)); have HAC2 := Lib.hid (HAW.out.trans (hb.mono HAW.out.size)); clear ho hb)
        | (go_at_call 15; (with_reducible refine (jread_some a7 144 c7 takeT 20 20 rfl rsT 2 wC HHC.out takeT_nums.1 (by decide) (by decide) (by decide) (takeT_ok 20)).mono ?_); rintro e wD ⟨gj, rfl, hT, hb⟩; have HTJ := Lib.hid hT; have HBD := Lib.hid (HBC.out.trans (hb.mono HBC.out.size)); have HTI2 := Lib.hid (HTI.out.below (HAC2.out.trans (hb.mono HAC2.out.size))); clear hT hb))
      obtain ⟨ids, hids⟩ : ∃ ids, ids = idsW xs := ⟨_, rfl⟩
      have HIL := Lib.hid (show ids.length = nX from by rw [hids, idsW_length]; exact HXL.out)
      have HSN := Lib.hid (fun j (h : j < nX) => show ids.take j ++ [(((xs.getD j 0).toNat % 9 : Nat) : Int)] = ids.take (j + 1) from by rw [hids]; exact idsW_snoc xs j (by rw [HXL.out]; exact h))
      have hidw := newG_idsC (ids := ids) (by rw [hids]; exact idsW_wide xs)
      obtain ⟨t, ht⟩ : ∃ t : Nat → Int, t = tW xs := ⟨_, rfl⟩
      have ht9 : ∀ k, k < nX → 0 ≤ t k ∧ t k < 9 := fun k _ => by rw [ht]; exact tW_lt xs k
      have hnt : newG ids = (List.range nX).map fun k => (t k, ((k : Nat) : Int)) := by rw [hids, ht, newG_W, HXL.out]
      obtain ⟨⟨r1, hJ1⟩, ps, r2, hJ2⟩ := grow_join t nX hn60 ht9
      rw [← hnt] at hJ1
      have hidj : IdsOk (lineJ t nX 0) := by
        have := insD_ids putG [] (putG.drop (num putG 16 4)) nX (newG ids) hidw
        rw [hJ1] at this
        exact this
      have hcl : cleanG (lineJ t nX nX) = newG ids := (lineJ_clean t nX (fun k hk => by have := ht9 k hk; omega)).trans hnt.symm
      have hnl : (newG ids).length = nX := by rw [newG_length]; exact HIL.out
      have HRI := Lib.hid (fun (B gl : Nat) (a : Option Addr) (c Bm : Nat) (W : World) (hT : IIs 0 Bm gi putG [] 2 W) (hG : GIs B gl a c (newG ids) W) (hB : B ≤ W.heap.size) (hgl : B ≤ gl) => show Calls Try.prog 34 #[.pointer (some ⟨gi, 0, none⟩), .pointer (some ⟨gl, 0, none⟩), .int .i64 (nX : Nat)] W fun e w' => e = .returned (.tuple #[.int .i64 (nX : Nat), .int .i64 0]) ∧ (∃ a' c', GIs B gl a' c' (lineJ t nX 0) w') ∧ Below B W w' from by
        have := irun_any 0 Bm gi putG 20 [] 2 B gl a c (newG ids) (nX : Nat) nX W hT (putG_ok 20) (by decide) (by decide) (Nat.zero_le _) hgl hG hB hidw rfl (by rw [hnl]; omega)
        rw [hJ1] at this
        refine this.mono ?_
        rintro e w' ⟨rfl, ⟨a', c', hg, _⟩, hk⟩
        exact ⟨rfl, ⟨a', c', hg⟩, hk.below⟩)
      have HRJ := Lib.hid (fun (B gl : Nat) (a : Option Addr) (c Bm : Nat) (W : World) (hT : JIs 0 Bm gj takeT rsT 2 W) (hG : GIs B gl a c (lineJ t nX 0) W) (hB : B ≤ W.heap.size) (hgl : B ≤ gl) => show Calls Try.prog 18 #[.pointer (some ⟨gj, 0, none⟩), .pointer (some ⟨gl, 0, none⟩)] W fun e w' => e = .returned (.int .i64 0) ∧ (∃ a' c', GIs B gl a' c' (lineJ t nX nX) w') ∧ Below B W w' from by
        have := jrun_any 0 Bm gj takeT 20 rsT 2 B gl a c (lineJ t nX 0) W hT (takeT_ok 20) (by decide) (by decide) (Nat.zero_le _) hgl hG hB hidj (by rw [lineJ_length]; omega)
        rw [hJ2] at this
        refine this.mono ?_
        rintro e w' ⟨rfl, ⟨a', c', hg, _⟩, hk⟩
        exact ⟨rfl, ⟨a', c', hg⟩, hk.below⟩)
      have HJL := Lib.hid (show (lineJ t nX 0).length = nX + nX ∧ (lineJ t nX nX).length = nX + nX from ⟨lineJ_length _ _ _, lineJ_length _ _ _⟩)
      have HCL := Lib.hid hcl
      clear hJ1 hJ2 hidw hidj hcl hids ht ht9 hnt HP HAA HWT HK HLG HH9
      generalize lineJ t nX 0 = J0 at *
      generalize lineJ t nX nX = J1 at *
      go_loopw [10, 88] (fun v i wr => ∃ j : Nat, j ≤ nX ∧ i = .int .i64 (j : Nat) ∧ IRow wD.heap.size (ids.take j) v wr ∧ Below wD.heap.size wD wr) (fun _ i _ => nX - (Go.RowKit.intOf i).toNat)
      case atStart => exact ⟨0, Nat.zero_le _, rfl, ⟨none, 0, rfl, World.ownsRow_nil _ _ _ _⟩, Below.refl _ _⟩
      case round =>
        obtain ⟨j, hj, rfl, hI, hb⟩ := hrel
        rename World => wz
        have HBZ := Lib.hid hb
        have HIR := Lib.hid hI
        have hrz := hb.size
        clear hb hI
        by_cases hlt : j < nX
        · obtain ⟨bI, oI, hbI, hblI, hcI⟩ := (HX.out.below (HBD.out.trans (HBZ.out.mono HBD.out.size))).get (by rw [bytesV_length, HXL.out]; omega)
          have e1 := hcI j _ (bytesV_get xs j (by rw [HXL.out]; exact hlt))
          have hx := (xs.getD j 0).toNat_lt
          have HS := Lib.hid (HSN.out j hlt)
          subst hbI
          generalize (xs.getD j 0).toNat = x at *
          have f1 : IntKind.i64.wrap (x : Int) = (x : Int) := IntWalk.i64_in _ (by omega)
          have f2 : (x : Int).tmod 9 = ((x % 9 : Nat) : Int) := by rw [Int.tmod_eq_emod_of_nonneg (by omega)]; omega
          have f3 : IntKind.i64.wrap ((x % 9 : Nat) : Int) = ((x % 9 : Nat) : Int) := IntWalk.i64_in _ (by omega)
          have hjl : (ids.take j).length = j := by rw [List.length_take, HIL.out]; omega
          clear hcI
          generalize x % 9 = x9 at *
          go_wp2_with (at_builtin; refine wpAppI rfl _ _ rfl wD.heap.size _ (ids.take j) [(x9 : Int)] rfl (HIR.out.below (balloc (brefl _) _)) (some ⟨wz.heap.size, 0, none⟩) 1 1 rfl rfl (has_alloc wz _ _) (fun h => by cases h) (by rw [hjl]; omega) (by simp; omega) ?_; intro v5 w5 hI5 hb5 hg5; clear hg5; have HI5 := Lib.hid hI5; have HB5 := Lib.hid ((HBZ.out.alloc (by omega) _).trans hb5); clear hI5 hb5)
          go_roundw
          case rel => exact ⟨j + 1, hlt, by go_num, by rw [← HS.out]; exact HI5.out, HB5.out⟩
          case measure => simp [Go.RowKit.intOf]; omega
        · obtain rfl : nX = j := by omega
          obtain ⟨aO, cO, rfl, hO⟩ := HIR.out
          have htk : ids.take nX = ids := List.take_of_length_le (by rw [HIL.out]; exact Nat.le_refl _)
          rw [htk, HIL.out] at hO
          rw [htk, HIL.out]
          have HHO := Lib.hid (has_of_owns hO)
          have HTIz := Lib.hid (HTI2.out.below HBZ.out)
          have HTJz := Lib.hid (HTJ.out.below HBZ.out)
          have HBWZ := Lib.hid (HBD.out.trans (HBZ.out.mono HBD.out.size))
          obtain ⟨n2, hn2⟩ : ∃ n2, n2 = nX + nX := ⟨_, rfl⟩
          rw [← hn2] at HJL
          have fw : IntKind.i64.wrap (2 * (nX : Int)) = (n2 : Int) := by rw [IntWalk.i64_in _ (by omega)]; omega
          have hne1 : ((nX : Int) != (nX : Int)) = false := by simp
          have hne2 : ((n2 : Int) != (n2 : Int)) = false := by simp
          have hnX2 : n2 ≤ 120 := by omega
          have HNL := Lib.hid hnl
          clear hO htk hlt hj hrz hn2 hnl HIR
          go_wp2_with (first
            | (go_at_call 17; (with_reducible refine (gnew_any aO nX cO ids wz HHO.out HIL.out (by omega)).mono ?_); rintro e wE ⟨gx, ax, cx, rfl, hG, hgx0, hb⟩; have HGE := Lib.hid hG; have HZE := Lib.hid hb; clear hG hb)
            | (go_at_call 34; (with_reducible refine (HRI.out wz.heap.size gx ax cx _ wE (HTIz.out.below HZE.out) HGE.out HZE.out.size hgx0).mono ?_); rintro e wF ⟨rfl, ⟨af, cf, hG⟩, hb⟩; have HGF := Lib.hid hG; have HZF := Lib.hid (HZE.out.trans hb); have HLF := Lib.hid (show Calls Try.prog 38 #[.pointer (some ⟨gx, 0, none⟩)] wF fun e w' => e = .returned (.int .i64 (n2 : Nat)) ∧ wF = w' from HJL.out.1 ▸ glen_any wz.heap.size gx af cf J0 wF hG); clear hG hb)
            | (go_at_call 38; (with_reducible refine HLF.out.mono ?_); rintro e w_ ⟨rfl, rfl⟩)
            | (go_at_call 18; (with_reducible refine (HRJ.out wz.heap.size gx af cf _ wF (HTJz.out.below HZF.out) HGF.out HZF.out.size hgx0).mono ?_); rintro e wG ⟨rfl, ⟨ag, cg, hG⟩, hb⟩; have HGG := Lib.hid hG; have HZG := Lib.hid (HZF.out.trans hb); clear hG hb)
            | (go_at_call 39; (with_reducible refine (gclean_any wz.heap.size gx ag cg J1 wG HGG.out hgx0 HZG.out.size (by rw [HJL.out.2]; omega)).mono ?_); rintro e wH ⟨ch, rfl, hG, hs⟩; rw [HCL.out] at hG; have HGH := Lib.hid hG; have HZH := Lib.hid (HZG.out.trans hs.below); have HLH := Lib.hid (show Calls Try.prog 38 #[.pointer (some ⟨gx, 0, none⟩)] wH fun e w' => e = .returned (.int .i64 (nX : Nat)) ∧ wH = w' from HNL.out ▸ glen_any wz.heap.size gx ag ch (newG ids) wH hG); clear hG hs)
            | (go_at_call 38; (with_reducible refine HLH.out.mono ?_); rintro e w_ ⟨rfl, rfl⟩)
            | (go_at_call 22; (with_reducible refine (show Calls Try.prog 22 #[.pointer (some ⟨gx, 0, none⟩)] wH fun e w' => ∃ a' c', e = .returned (.slice a' nX c') ∧ w'.ownsRow wH.heap.size 59 2 (.slice a' nX c') nX (gv (newG ids)) ∧ nX ≤ c' ∧ c' ≤ maxLen ∧ (a' = none → c' = 0) ∧ Below wH.heap.size wH w' from HNL.out ▸ gglyphs_any _ gx ag ch (newG ids) wH HGH.out (by rw [HNL.out]; omega)).mono ?_); rintro e wI ⟨ai, ci, rfl, ho, _, _, _, hb⟩; have HOI := Lib.hid ho; have HZI := Lib.hid (HZH.out.trans (hb.mono HZH.out.size)); clear ho hb))
          have HHI := Lib.hid (HHO.out.below HZI.out)
          have HBI := Lib.hid (HBWZ.out.trans (HZI.out.mono HBWZ.out.size))
          go_loopw [139] (fun i wr => ∃ j : Nat, j ≤ nX ∧ i = .int .i64 (j : Nat) ∧ Below wI.heap.size wI wr) (fun i _ => nX - (Go.RowKit.intOf i).toNat)
          case atStart => exact ⟨0, Nat.zero_le _, rfl, Below.refl _ _⟩
          case round =>
            obtain ⟨j, hj, rfl, hb⟩ := hrel
            rename World => wy
            have HBY := Lib.hid hb
            have HOY := Lib.hid (owns_below HOI.out hb (Nat.le_refl _))
            by_cases hlt : j < nX
            · obtain ⟨gi2, p, rfl, hgi, hgz, hp, hc1, hc2, _, _, _, _⟩ := grow_at HOY.out HNL.out hlt
              obtain ⟨z, hz⟩ : ∃ z, ids[j]? = some z := ⟨_, List.getElem?_eq_getElem (by rw [HIL.out]; exact hlt)⟩
              rw [newG_get, hz] at hp
              injection hp with hp
              subst hp
              simp only at hc1 hc2
              obtain ⟨bI, oI, hbI, hblI, hcI⟩ := (HHI.out.below hb).get (by rw [iv_length, HIL.out]; omega)
              have e1 := hcI j _ (iv_get hz)
              subst hbI
              have d3 : (z != z) = false := by simp
              have d4 : (((j : Nat) : Int) != (j : Int)) = false := by simp
              have HREL := Lib.hid (show ∀ wq, Below wy.heap.size wy wq → Below wI.heap.size wI wq from fun wq h => HBY.out.trans (h.mono HBY.out.size))
              clear hcI hz hb
              go_wp2_with fail
              obtain ⟨V, hV⟩ : ∃ V, V = wy.alloc (Obj.cells #[.int .i64 z, .int .i64 (j : Nat)] 59) := ⟨_, rfl⟩
              have hbV : Below wy.heap.size wy V := by rw [hV]; exact balloc (brefl wy) _
              have xV : V.heap[wy.heap.size]? = some (.cells #[.int .i64 z, .int .i64 (j : Nat)] 59 (0, 0)) := by rw [hV]; exact (heap_push _ _ _).trans (if_pos rfl)
              have qV := fun o => cell_of_heap xV o
              have eV := (hbV.cell (p := ⟨bI, oI + j, none⟩) hblI).trans e1
              have lV := (Array.getElem?_eq_some_iff.1 xV).1
              rw [← hV]
              clear hV xV e1
              refine wp_region_tree (.step 0 (.step 1 (.step 2 (.step 3 (.step 4 (.step 5 (.step 6 (.step 7 (.step 8 (.step 9 (.step 10 (.step 11 (.step 12 .nil))))))))))))) (by kernel_rfl) (by kernel_rfl) (by kernel_rfl) (by kernel_rfl) (by intro _ _ d_ _ _ h_; cases d_ <;> first | exact h_ | (dsimp +zetaDelta only at h_ ⊢; exact h_)) (fun w' => ∃ p : Wld V [], w' = p.val) (wld_start _ _) ?_
              have hG_ := @wldC V
              (refine tree_quiet gtA (by rfl) (by rfl) (fun K_ hK_ => ?_); go_big_quiet_op; refine hK_ _ ?_; clear hK_ K_)
              (refine tree_quiet gtA (by rfl) (by rfl) (fun K_ hK_ => ?_); go_big_quiet_op; refine hK_ _ ?_; clear hK_ K_)
              (refine tree_quiet gtA (by rfl) (by rfl) (fun K_ hK_ => ?_); go_big_quiet_op; refine hK_ _ ?_; clear hK_ K_)
              (refine tree_quiet gtA (by rfl) (by rfl) (fun K_ hK_ => ?_); go_big_quiet_op; refine hK_ _ ?_; clear hK_ K_)
              (refine tree_quiet gtA (by rfl) (by rfl) (fun K_ hK_ => ?_); go_big_quiet_op; refine hK_ _ ?_; clear hK_ K_)
              (refine tree_quiet gtA (by rfl) (by rfl) (fun K_ hK_ => ?_); go_big_quiet_op; refine hK_ _ ?_; clear hK_ K_)
              (refine tree_quiet gtA (by rfl) (by rfl) (fun K_ hK_ => ?_); go_big_quiet_op; refine hK_ _ ?_; clear hK_ K_)
              (refine tree_quiet gtA (by rfl) (by rfl) (fun K_ hK_ => ?_); go_big_quiet_op; refine hK_ _ ?_; clear hK_ K_)
              first | (refine tree_skip gtA (by rfl) ?_; dsimp only [Act.put]; simp only [List.setIfInBounds_toArray, List.set_cons_succ, List.set_cons_zero]) | (refine tree_quiet gtA (by rfl) (by rfl) (fun K_ hK_ => ?_); go_big_quiet_op; refine hK_ _ ?_; clear hK_ K_)
              first | (refine tree_skip gtA (by rfl) ?_; dsimp only [Act.put]; simp only [List.setIfInBounds_toArray, List.set_cons_succ, List.set_cons_zero]) | (refine tree_quiet gtA (by rfl) (by rfl) (fun K_ hK_ => ?_); go_big_quiet_op; refine hK_ _ ?_; clear hK_ K_)
              first | (refine tree_skip gtA (by rfl) ?_; dsimp only [Act.put]; simp only [List.setIfInBounds_toArray, List.set_cons_succ, List.set_cons_zero]) | (refine tree_quiet gtA (by rfl) (by rfl) (fun K_ hK_ => ?_); go_big_quiet_op; refine hK_ _ ?_; clear hK_ K_)
              first | (refine tree_skip gtA (by rfl) ?_; dsimp only [Act.put]; simp only [List.setIfInBounds_toArray, List.set_cons_succ, List.set_cons_zero]) | (refine tree_quiet gtA (by rfl) (by rfl) (fun K_ hK_ => ?_); go_big_quiet_op; refine hK_ _ ?_; clear hK_ K_)
              (refine tree_quiet gtA (by rfl) (by rfl) (fun K_ hK_ => ?_); go_big_quiet_op; refine hK_ _ ?_; clear hK_ K_)
              refine tree_nil ?_
              clear hG_
              go_wp2_with fail
              go_roundw
              case rel => exact ⟨j + 1, hlt, by go_num, HREL.out _ (by first | exact hbV | exact hbV.drew | exact blw)⟩
              case measure => simp only [Go.RowKit.intOf]; omega
            · obtain rfl : nX = j := by omega
              have HBW2 := Lib.hid (HBI.out.trans (HBY.out.mono HBI.out.size))
              clear hlt hb
              go_wp2_with fail
              go_ret
              exact ⟨rfl, HBW2.out⟩

open Go.ChangeShapes Go.WideShapes Go.ChangeAt Go.RowKit
open Go.ChangeMaps (open_string shut_string)

set_option maxRecDepth 100000 in
theorem wholeGrows_walks (H : Type) (enc : TypeId × Value → H) : Walks H enc 13 [22] := by
  intro W base args ds p hval hA _
  obtain ⟨v0, vs0, d0, ds0, p0, q0, hargs, rfl, rfl, h0, r0⟩ := trodAll_cons hA
  obtain ⟨rfl, rfl, rfl⟩ := trodAll_nil r0
  obtain rfl : args = #[v0] := by cases args; simp_all
  obtain ⟨a0, n0, c0, x0, rfl, e0, f0, g0, j0, k0⟩ := open_bytes Try.underlying22 Try.underlying5 (by kernel_rfl) (hval 0 22 v0 rfl rfl) h0
  exact wholeGrows_walk a0 n0 c0 x0 W e0 f0

set_option maxRecDepth 100000 in
theorem wholeGrows_lifted (os : Os) (started : os.Started) (H : Type) (enc : TypeId × Value → H) :
    ReturnsInHanded {} Try.checked os 13 .any (Rows.wholeGrowsSpec.pre6 enc Try.prog Try.f13 Rows.wholeGrowsRow.domain false) (Rows.wholeGrowsSpec.post enc Try.prog Try.f13 false true false false) :=
  lift_law (s := Rows.wholeGrowsSpec) (fn := Try.f13) started (by kernel_rfl) Try.func13
    (ChangeSpec.witness6 (enc := enc) (C := Try.checked) false ⟨#[], #[.slice none 0 0], []⟩ 8 (by kernel_rfl) (by kernel_rfl) (by kernel_rfl) (by kernel_rfl))
    rfl rfl (fun ds h => by match ds, h with | [d0], _ => rfl) (by intro t ht; simp [Try.params13] at ht; first | (subst ht; exact ⟨by kernel_rfl, of_decide_eq_true (by kernel_rfl)⟩) | (obtain rfl | rfl := ht <;> exact ⟨by kernel_rfl, of_decide_eq_true (by kernel_rfl)⟩) | (obtain rfl | rfl | rfl := ht <;> exact ⟨by kernel_rfl, of_decide_eq_true (by kernel_rfl)⟩) | (obtain rfl | rfl | rfl | rfl := ht <;> exact ⟨by kernel_rfl, of_decide_eq_true (by kernel_rfl)⟩))
    (by rw [Try.params13]; exact wholeGrows_walks H enc)
theorem wholeGrows_over : Rows.wholeGrowsRow.holds Try.pinned (OpenSpec.ofChange Rows.wholeGrowsSpec) :=
  OpenClaim.holds_of_wide 13 Try.f13 rfl rfl rfl rfl rfl rfl rfl ⟨rfl, rfl, rfl, rfl, rfl⟩ rfl rfl rfl rfl rfl (by kernel_rfl) Try.func13 (by kernel_rfl)
    (of_decide_eq_true (by kernel_rfl)) (by unfold Func.isWrapper; first | (rw [if_pos (by decide +kernel)]; kernel_rfl) | (rw [if_neg (by decide +kernel)]; exact ⟨rfl, rfl⟩))
    (fun os started H enc _ => wholeGrows_lifted os started H enc)
theorem wholeGrows_proved : Rows.WholeGrowsSaid := wholeGrows_over
#print axioms wholeGrows_proved
end Go.Proofs.Ytlgkikmmpnnnfaa
